import PyProof.Rows.All
import Wide.All
import OpenK.AllK
import Wide.FinOn
import HandS.ForMost
import HandS.IsInst
import HandS.TupMul
import HandS.TupAny
import HandS.Exc
import HandS.ExcOwn
import HandS.ExcInit
import HandS.ExcField
import HandS.TryOnly
import HandS.WordsExc
import HandS.EndBits
import HandS.CallSlots
import HandS.Deep
import HandS.Style
import PyProof.Rows.IntBool
import HandS.Iter
import HandS.Zip
import PyProof.EnumMake
import PyProof.EnumIter
import PyProof.EnumFor
import PyProof.Draws
import KE.GoesMore
import HandS.TryMany
import HandS.ExcIs
import HandS.SetFor
import HandS.Strs
import HandS.Conv
import PyProof.Rows.SortShell
import KE.KDictWalk
import HandS.Codes
import HandS.Small
import HandS.SlotsOwn
import HandS.SortRule
import PyProof.Rows.SortKeyStr
import PyProof.EqKinds
import KE.GoesEnum
import PySem.Challenge.RW_hourcards_k16_whole_turns_follow_hours

set_option Elab.async false
set_option linter.all false
set_option maxRecDepth 100000
set_option maxHeartbeats 4000000
namespace Hc
open PySem L2
/-- things, as far as they are looked into -/
inductive D where
  | non | bl (b : Bool) | int (i : Int) | str (s : Str) | tup (xs : List D) | lst | dct
def tyOf : D → String
  | .non => "NoneType" | .bl _ => "bool" | .int _ => "int" | .str _ => "str" | .tup _ => "tuple" | .lst => "list" | .dct => "dict"
section
variable (H : Hp) (h : Addr)
mutual
/-- v is the thing d, in the heap H, apart from the list at h -/
inductive Rp : V → D → Prop
  | non : Rp .non .non
  | bl (b : Bool) : Rp (.bl b) (.bl b)
  | int (i : Int) : Rp (.int i) (.int i)
  | str (x : Str) : Rp (.str x) (.str x)
  | tup {a : Addr} {xs : List V} {ds : List D} : H a = some (.tup xs) → xs.length ≤ 100000 → RpA xs ds → Rp (.ref a) (.tup ds)
  | lst {a : Addr} {xs : List V} : H a = some (.lst xs) → a ≠ h → Rp (.ref a) .lst
  | dct {a : Addr} {kvs : List (Key × V)} : H a = some (.dK kvs) → Rp (.ref a) .dct
inductive RpA : List V → List D → Prop
  | nil : RpA [] []
  | cons {v : V} {vs : List V} {d : D} {ds : List D} : Rp v d → RpA vs ds → RpA (v :: vs) (d :: ds)
end
end
/-- all but what stands at h is as it was -/
def But (h : Addr) (H H' : Hp) : Prop := ∀ b o, H b = some o → b ≠ h → H' b = some o
theorem But.refl (h : Addr) (H : Hp) : But h H H := fun _ _ e _ => e
theorem But.trans {h : Addr} {H H1 H2 : Hp} (a : But h H H1) (b : But h H1 H2) : But h H H2 := fun c o e n => b c o (a c o e n) n
theorem But.of {h : Addr} {H H' : Hp} (s : Same H H') : But h H H' := fun b o e _ => s b o e
theorem But.free {h : Addr} {H H' : Hp} (k : But h H H') {l : Addr} (hl : l ≠ h) (e : H' l = none) : H l = none := by
  cases q : H l with
  | none => rfl
  | some o => rw [k l o q hl] at e; cases e
theorem same_upd {H : Hp} {p : Addr} {o : HO} (hp : H p = none) : Same H (upd H p o) := fun b u e => by
  rw [upd_ne (ne_of_none e hp)]; exact e
theorem but_upd {H : Hp} {h : Addr} {o : HO} : But h H (upd H h o) := fun b u e n => by
  rw [upd_ne n]; exact e
def IsLst (H : Hp) (h : Addr) : Prop := ∃ xs, H h = some (.lst xs)
section
variable {H H' : Hp} {h : Addr}
mutual
theorem Rp.mono (l : IsLst H h) (k : But h H H') : ∀ {v : V} {d : D}, Rp H h v d → Rp H' h v d
  | _, _, .non => .non
  | _, _, .bl b => .bl b
  | _, _, .int i => .int i
  | _, _, .str x => .str x
  | _, _, .tup e z r => .tup (k _ _ e (by obtain ⟨zs, q⟩ := l; exact ne_of e q (by intro z; cases z))) z (RpA.mono l k r)
  | _, _, .lst e n => .lst (k _ _ e n) n
  | _, _, .dct e => .dct (k _ _ e (by obtain ⟨zs, q⟩ := l; exact ne_of e q (by intro z; cases z)))
theorem RpA.mono (l : IsLst H h) (k : But h H H') : ∀ {vs : List V} {ds : List D}, RpA H h vs ds → RpA H' h vs ds
  | _, _, .nil => .nil
  | _, _, .cons a r => .cons (Rp.mono l k a) (RpA.mono l k r)
end
mutual
theorem Rp.same (k : Same H H') : ∀ {v : V} {d : D}, Rp H h v d → Rp H' h v d
  | _, _, .non => .non
  | _, _, .bl b => .bl b
  | _, _, .int i => .int i
  | _, _, .str x => .str x
  | _, _, .tup e z r => .tup (k _ _ e) z (RpA.same k r)
  | _, _, .lst e n => .lst (k _ _ e) n
  | _, _, .dct e => .dct (k _ _ e)
theorem RpA.same (k : Same H H') : ∀ {vs : List V} {ds : List D}, RpA H h vs ds → RpA H' h vs ds
  | _, _, .nil => .nil
  | _, _, .cons a r => .cons (Rp.same k a) (RpA.same k r)
end
theorem RpA.len : ∀ {vs : List V} {ds : List D}, RpA H h vs ds → vs.length = ds.length
  | _, _, .nil => rfl
  | _, _, .cons a r => by rw [List.length_cons, List.length_cons, RpA.len r]
theorem RpA.get : ∀ {vs : List V} {ds : List D} {i : Nat} {v : V}, RpA H h vs ds → vs[i]? = some v → ∃ d, ds[i]? = some d ∧ Rp H h v d
  | _, _, i, _, .nil, e => by simp at e
  | _, _, 0, _, .cons a r, e => by simp at e; subst e; exact ⟨_, rfl, a⟩
  | _, _, i + 1, v, .cons a r, e => by
    obtain ⟨d, h1, h2⟩ := RpA.get (i := i) (v := v) r (by simpa using e)
    exact ⟨d, by simpa using h1, h2⟩
theorem RpA.app : ∀ {vs ws : List V} {ds es : List D}, RpA H h vs ds → RpA H h ws es → RpA H h (vs ++ ws) (ds ++ es)
  | _, _, _, _, .nil, s => s
  | _, _, _, _, .cons a r, s => .cons a (RpA.app r s)
theorem RpA.take : ∀ {vs : List V} {ds : List D} (n : Nat), RpA H h vs ds → RpA H h (vs.take n) (ds.take n)
  | _, _, 0, _ => .nil
  | _, _, _ + 1, .nil => .nil
  | _, _, n + 1, .cons a r => .cons a (RpA.take n r)
theorem RpA.drop : ∀ {vs : List V} {ds : List D} (n : Nat), RpA H h vs ds → RpA H h (vs.drop n) (ds.drop n)
  | _, _, 0, r => r
  | _, _, _ + 1, .nil => .nil
  | _, _, n + 1, .cons _ r => RpA.drop n r
/-- its type -/
theorem Rp.ty {K : PySem.W.Frag} {v : V} {d : D} (r : Rp H h v d) : TyX K H v (.type (tyOf d)) := by
  cases r with
  | non => exact .base .non
  | bl b => exact .base (.bl b)
  | int i => exact .base (.int i)
  | str x => exact .base (.str x)
  | tup e _ _ => exact .base (.tup e)
  | lst e _ => exact .base (.lst e)
  | dct e => exact .base (.dK e)
end
def isIB : D → Bool | .int _ => true | .bl _ => true | _ => false
def isB : D → Bool | .bl _ => true | _ => false
def isT : D → Bool | .tup _ => true | _ => false
theorem kitI (d : D) : kitB (tyOf d) "int" = some (isIB d) := by cases d <;> (simp only [tyOf, isIB]; decide +kernel)
theorem kitBo (d : D) : kitB (tyOf d) "bool" = some (isB d) := by cases d <;> (simp only [tyOf, isB]; decide +kernel)
theorem kitT (d : D) : kitB (tyOf d) "tuple" = some (isT d) := by cases d <;> (simp only [tyOf, isT]; decide +kernel)
def isInt : D → Bool | .int _ => true | _ => false
def isBtw (lo hi : Int) : D → Bool | .int i => decide (lo ≤ i) && decide (i ≤ hi) | _ => false
def areInts (n : Int) : D → Bool | .tup ds => decide ((ds.length : Int) = n) && ds.all isInt | _ => false
def areBtw (n lo hi : Int) : D → Bool | .tup ds => decide ((ds.length : Int) = n) && ds.all (isBtw lo hi) | _ => false
def neq2 : D → Bool | .tup (.int a :: .int b :: _) => !decide (a = b) | _ => false
def isBE (n : Int) (d : D) : Bool := areBtw 2 0 (n - 1) d && neq2 d
def areRoads (n : Int) : D → Bool | .tup ds => decide (1 ≤ ds.length) && decide (ds.length ≤ 24) && ds.all (isBE n) | _ => false
end Hc


set_option Elab.async false
set_option linter.all false
set_option maxRecDepth 100000
set_option maxHeartbeats 4000000
namespace L2
open PySem PySem.Spec PyProof.Rows
/-- x - j, x an int or a bool -/
def rSubA : R2 := fun x y H Q => (∃ i j, x = .int i ∧ y = .int j ∧ Q (.int (i - j)) H) ∨ ∃ b j, x = .bl b ∧ y = .int j ∧ Q (.int ((if b = true then (1 : Int) else 0) - j)) H
theorem op_subA {X : Cx} : OpR X (binaryOp .Sub) rSubA := by
  intro pins s σ H x y v u Q I rx ry h
  rcases h with ⟨i, j, rfl, rfl, q⟩ | ⟨b, j, rfl, rfl, q⟩
  · exact op_sub pins s σ H _ _ v u Q I rx ry ⟨i, j, rfl, rfl, q⟩
  · cases rx
    obtain ⟨t, rfl⟩ := ry
    exact PySem.IntBool.sub_bool_int ⟨.int _, H, I.tok _, ⟨_, rfl⟩, q⟩
/-- t * 1 is t -/
theorem tuple_mul1 (l : Addr) (items : Array Value) (n : Nat) (dd : Option Addr) (sl : Array (Option Value)) (u : Tok) :
    Meets (Builtin.«tuple.__mul__» ⟨[.ref l, .int 1 u], []⟩) (fun _ R s => s.heap.get? l = some { cls := .type "tuple", dict := dd, data := .seq items n, slots := sl } ∧
      R (.ok (.ret (Value.ref l))) s) :=
  .of_wp fun prog w A R s h => by
    obtain ⟨hp, g, d, tk, os⟩ := s
    obtain ⟨hl, h⟩ := h
    have f1 := AutoSeq1.idx_int
    have c0 : (decide ((1 : Int) < -(2 ^ 63)) || decide ((1 : Int) ≥ 2 ^ 63)) = false := by decide
    have c1 : (items.isEmpty || ((1 : Int) == 1)) = true := by rw [Bool.or_eq_true]; exact .inr rfl
    wp_walk using wpAny_loadPart' hl
    repeat (first
      | (refine wpAny_ite_false (decide_eq_false (by rw [c0]; exact Bool.false_ne_true)) ?_; wp_walk using wpAny_loadPart' hl)
      | (refine wpAny_ite_true (decide_eq_true c1) ?_; wp_walk using wpAny_loadPart' hl))
    exact ⟨_, rfl, h⟩
def rRepA (K : PySem.W.Frag) : R2 := fun x y H Q => ∃ l k xs, x = .ref l ∧ y = .int k ∧ SqT K H l xs ∧ xs ≠ [] ∧ 1 ≤ k ∧ k ≤ 1000 ∧ xs.length ≤ 1000 ∧
  (k = 1 → Q (.ref l) H) ∧ (2 ≤ k → ∀ p, H p = none → Q (.ref p) (upd H p (.tup (List.replicate k.toNat xs).flatten)))
theorem op_repA {X : Cx} : OpR X (binaryOp .Mult) (rRepA X.K) := by
  intro pins s σ H x y v u Q I rx ry h
  obtain ⟨l, k, xs, rfl, rfl, hT, hne, h1, h2, hz, q1, q2⟩ := h
  by_cases h3 : 2 ≤ k
  · exact op_repT pins s σ H _ _ v u Q I rx ry ⟨l, k, xs, rfl, rfl, hT, hne, h3, h2, hz, q2 h3⟩
  · obtain rfl : k = 1 := by omega
    cases rx
    obtain ⟨t, rfl⟩ := ry
    obtain ⟨its, r, ⟨⟨cls, dd, data, sl⟩, ho, hc, n, hd⟩, hs⟩ := I.tuple hT
    simp only at hc hd
    subst hc hd
    exact wpAny_binaryOp_repeat_ref (T := "tuple") (U := "int") (by decide) ⟨_, ho, rfl⟩ (fun s' => typeIs_int s' 1 t) noFill_tuple_mul F.fills_int_mul F.slot_int_rmul repeat_tuple F.slot_int_index.lookup
      (call_meets F.slot_int_rmul (typeIs_int s 1 t) F.entry_int_rmul (F.args_int_rmul_2 _ _) (int_rmul_tuple 1 t l its.toArray n dd sl)
        ⟨ho, rfl, ⟨_, ho, rfl⟩, call_meets F.slot_tuple_mul ⟨_, ho, rfl⟩ F.entry_tuple_mul (F.args_tuple_mul_2 _ _) (tuple_mul1 l its.toArray n dd sl t) ⟨ho, ⟨.ref l, H, I, rfl, q1 rfl⟩⟩⟩)
/-- C(e, ..) where what is raised is wished for at the caller's slots -/
def tMakeS (C : Addr) (sp : Sp) (dvs : List V) (E : St → XK) (t : TA) : TE := fun σ H Q => t σ H fun vs H1 => ∀ x dx, H1 x = none → H1 dx = none → dx ≠ x →
  sp (.ref x :: (vs ++ dvs)) (upd (upd H1 dx (.own x)) x (.ins C dx [])) (fun v H2 => v = .non ∧ Q (.ref x) H2) (E σ)
section
variable {X : Cx} {CX : CXT} {k : Nat} {f C : Addr} {fd : FuncData} {ps : List Str} {sp : Sp} {dvs : List V} {ds : List Value} {E : St → XK} {x m : Str} {p pos apos : Pos} {e o : Expr} {es : List Expr} {ta : TE} {t : TA}
theorem pe_makeS (M : Mk X.K C f) (F : FnOk X.prog X.w X.K X.mg X.base CX k f fd ps sp) (hr : Room (k + 1) X.A) (hg : Gl X x) (hm : X.mg x = some (.ref C)) (hb : Binds X.K fd ps ds) (hd : Vals dvs ds) (hx : ∀ σ, PassesAt CX X σ (E σ))
    (ha : PA X (e :: es) t) (hdb : (x == ("__debug__" : Str)) = false := by decide) (he : starEach (e :: es) X.env = (false, eval e X.env) :: starEach es X.env := by rfl) (hpl : (backTo pos (starEach es X.env)).any (·.1) = false := by rfl) :
    PE X (.Call (.Name x p) (e :: es) [] pos) (tMakeS C sp dvs E t) := by
  refine ⟨fun pins s0 σ H0 Q I0 h0 => ?_⟩
  refine wpAny_Call_Name_kw (ld_glob I0 hg hm ?_ hdb)
  refine PySem.W.callWith_K (h₀ := X.base) I0.ok.mod.kin M.kp (thn (ha.run pos pins s0 σ H0 _ I0 h0) fun us s ⟨vs, H, I, r, h⟩ => ⟨I.kIn, ?_⟩) he hpl
  have hq := h (s.heap.objs.size + 1) s.heap.objs.size (I.hok.fresh (Nat.le_succ _)) (I.hok.fresh (Nat.le_refl _)) (Nat.ne_of_lt (Nat.lt_succ_self _))
  have I2 := Inv.made (C := C) I
  have r2 : Vals (V.ref (s.heap.objs.size + 1) :: (vs ++ dvs)) (Value.ref (s.heap.objs.size + 1) :: (us ++ ds)) := .cons rfl (r.append hd)
  have hl : (Value.ref (s.heap.objs.size + 1) :: us ++ ds).length = ps.length := by
    have e := r2.length
    rw [F.len _ _ _ _ hq] at e
    exact e.symm
  refine wpAny_call (make_map (f := f) I.kIn M.makes M.init (beq_iff_eq.mp M.fn) (codeAny_mono (F.run _ X.stack _ _ ⟨Value.ref (s.heap.objs.size + 1) :: us, []⟩ (Value.ref (s.heap.objs.size + 1) :: (us ++ ds)) _ _ (E σ) (hr.make C us [])
    (I2.env0.make C us []) (hb _ (Value.ref (s.heap.objs.size + 1) :: us) I2.kIn hl) r2 hq) fun r s' hq' => ?_))
  cases r with
  | error e => exact hx σ pins _ _ e s' I2 hq'
  | ok fl =>
    cases fl with
    | ret u =>
      obtain ⟨v, H', I3, rv, ev, q3⟩ := I2.after hq'
      subst ev
      exact ⟨rv, ⟨V.ref (s.heap.objs.size + 1), H', I3, rfl, q3⟩⟩
    | next => exact False.elim hq'
    | brk => exact False.elim hq'
    | cont => exact False.elim hq'
end
end L2
/-! ### Hc -/
namespace Hc
open PySem L2
theorem line_lt {n : Nat} (h : n ≤ 100000) : n < sizeLine := by rw [sizeLine_eq]; omega
theorem line_le {n : Nat} (h : n ≤ 100000) : n ≤ sizeLine := by rw [sizeLine_eq]; omega
theorem take_more {α : Type} : ∀ {l : List α} {i : Nat} {x : α}, l[i]? = some x → l.take (i + 1) = l.take i ++ [x]
  | [], i, x, h => by simp at h
  | a :: l, 0, x, h => by
    have e : a = x := Option.some.inj h
    subst e
    rfl
  | a :: l, i + 1, x, h => by
    have ih := take_more (l := l) (i := i) (x := x) h
    show a :: l.take (i + 1) = a :: l.take i ++ [x]
    rw [ih]
    rfl
/-- [p(x) for x in t]: the list of the answers -/
theorem all_tup {K : PySem.W.Frag} {H : Hp} {h a A : Addr} {xs : List V} {ds : List D} {j : Nat} {te : TE} {σ : St} {vs : List Nat} {Qd : Hp → Prop}
    (e : H a = some (.tup xs)) (z : xs.length ≤ 100000) (ra : RpA H h xs ds) (p : D → Bool) (hA : H A = none)
    (hw : ∀ x, wipe ((wipe σ vs).set j (some x)) vs = wipe σ vs)
    (hs : ∀ x d H' (Q : VK), d ∈ ds → Same H H' → Rp H' h x d → (∀ H4, Same H' H4 → Q (.bl (p d)) H4) → te ((wipe σ vs).set j (some x)) H' Q)
    (hd : ∀ H', Same H H' → SqL K H' A ((ds.map p).map V.bl) → Qd H') :
    ∃ W : Nat → Nat → Hp → Prop, (∃ m, W 0 m (upd H A (.lst []))) ∧ ∀ i m H, W i m H →
      ((Itt K a).stop i H ∧ Qd H) ∨ ((Itt K a).go i H ∧ ∃ Nx : Hp → Prop, (∀ H', Nx H' → ∃ m', m' < m ∧ W (i + 1) m' H') ∧ ∀ x H', (Itt K a).yld i H x H' → (gName j) x (wipe σ vs) H' fun σ2 H2 => wipe σ2 vs = wipe σ vs ∧ tYes σ2 H2 fun b H3 =>
        if b = true then te σ2 H3 fun y H4 => ∃ acc, H4 A = some (.lst acc) ∧ acc.length < sizeLine ∧ Nx (upd H4 A (.lst (acc ++ [y]))) else Nx H3) := by
  have hl := ra.len
  refine lc_tup (K := K) (xs := xs) (fun i H' => Same H (fun b => if b = A then none else H' b) ∧ H' A = some (.lst (((ds.take i).map p).map V.bl)))
    ⟨fun b o q => ?_, upd_same⟩ (fun i H' hi ⟨s, _⟩ => ?_) ?_ ?_
  · have n := ne_of_none q hA
    show (if b = A then none else upd H A _ b) = _
    rw [if_neg n, upd_ne n]; exact q
  · have q := s _ _ e
    have n := ne_of_none e hA
    simp only [if_neg n] at q
    exact SqT.of q
  · intro i x H' hx ⟨s, hH⟩
    have sm : Same H H' := fun b o q => by
      have r := s b o q
      simp only [if_neg (ne_of_none q hA)] at r
      exact r
    obtain ⟨d, hd1, rp⟩ := ra.get hx
    have hi : i < xs.length := (List.getElem?_eq_some_iff.mp hx).1
    refine ⟨hw x, ?_⟩
    unfold tYes
    show (if true = true then te _ _ _ else _)
    rw [if_pos rfl]
    refine hs x d H' _ (List.mem_of_getElem? hd1) sm (rp.same sm) fun H4 s4 => ⟨_, s4 _ _ hH, ?_, ?_, ?_⟩
    · rw [List.length_map, List.length_map, List.length_take]
      exact line_lt (by omega)
    · intro b o q
      have n := ne_of_none q hA
      show (if b = A then none else upd H4 A _ b) = _
      rw [if_neg n, upd_ne n]
      exact s4 _ _ (sm _ _ q)
    · rw [upd_same, take_more hd1, List.map_append, List.map_append]; rfl
  · intro H' ⟨s, hH⟩
    have sm : Same H H' := fun b o q => by
      have r := s b o q
      simp only [if_neg (ne_of_none q hA)] at r
      exact r
    rw [hl, List.take_length] at hH
    exact hd H' sm (SqL.of hH)
/-- [x for x in t if not p(x)]: as many as are none -/
theorem none_tup {K : PySem.W.Frag} {H : Hp} {h a A : Addr} {xs : List V} {ds : List D} {j : Nat} {te : TE} {tt : TT} {σ : St} {vs : List Nat} {Qd : Hp → Prop}
    (e : H a = some (.tup xs)) (z : xs.length ≤ 100000) (ra : RpA H h xs ds) (p : D → Bool) (hA : H A = none)
    (hw : ∀ x, wipe ((wipe σ vs).set j (some x)) vs = wipe σ vs)
    (hs : ∀ x d H' (Q : Bool → Hp → Prop), d ∈ ds → Same H H' → Rp H' h x d → (∀ H4, Same H' H4 → Q (!p d) H4) → tt ((wipe σ vs).set j (some x)) H' Q)
    (ht : ∀ x H' (Q : VK), Same H H' → (∀ y, Q y H') → te ((wipe σ vs).set j (some x)) H' Q)
    (hd : ∀ H' acc, Same H H' → SqL K H' A acc → acc.length ≤ 100000 → (acc.length = 0 ↔ ds.all p = true) → Qd H') :
    ∃ W : Nat → Nat → Hp → Prop, (∃ m, W 0 m (upd H A (.lst []))) ∧ ∀ i m H, W i m H →
      ((Itt K a).stop i H ∧ Qd H) ∨ ((Itt K a).go i H ∧ ∃ Nx : Hp → Prop, (∀ H', Nx H' → ∃ m', m' < m ∧ W (i + 1) m' H') ∧ ∀ x H', (Itt K a).yld i H x H' → (gName j) x (wipe σ vs) H' fun σ2 H2 => wipe σ2 vs = wipe σ vs ∧ tt σ2 H2 fun b H3 =>
        if b = true then te σ2 H3 fun y H4 => ∃ acc, H4 A = some (.lst acc) ∧ acc.length < sizeLine ∧ Nx (upd H4 A (.lst (acc ++ [y]))) else Nx H3) := by
  have hl := ra.len
  refine lc_tup (K := K) (xs := xs) (fun i H' => Same H (fun b => if b = A then none else H' b) ∧ ∃ acc, H' A = some (.lst acc) ∧ acc.length ≤ i ∧ (acc.length = 0 ↔ (ds.take i).all p = true))
    ⟨fun b o q => ?_, [], upd_same, Nat.le_refl _, by simp⟩ (fun i H' hi ⟨s, _⟩ => ?_) ?_ ?_
  · have n := ne_of_none q hA
    show (if b = A then none else upd H A _ b) = _
    rw [if_neg n, upd_ne n]; exact q
  · have q := s _ _ e
    have n := ne_of_none e hA
    simp only [if_neg n] at q
    exact SqT.of q
  · intro i x H' hx ⟨s, acc, hH, h1, h2⟩
    have sm : Same H H' := fun b o q => by
      have r := s b o q
      simp only [if_neg (ne_of_none q hA)] at r
      exact r
    obtain ⟨d, hd1, rp⟩ := ra.get hx
    have hi : i < xs.length := (List.getElem?_eq_some_iff.mp hx).1
    refine ⟨hw x, hs x d H' _ (List.mem_of_getElem? hd1) sm (rp.same sm) fun H4 s4 => ?_⟩
    cases hp : p d with
    | false =>
      rw [if_pos (by decide)]
      refine ht x H4 _ (fun b o q => s4 _ _ (sm _ _ q)) fun y => ⟨_, s4 _ _ hH, line_lt (by omega), fun b o q => ?_, _, upd_same, ?_, ?_⟩
      · have n := ne_of_none q hA
        show (if b = A then none else upd H4 A _ b) = _
        rw [if_neg n, upd_ne n]
        exact s4 _ _ (sm _ _ q)
      · rw [List.length_append, List.length_singleton]; omega
      · rw [List.length_append, List.length_singleton, take_more hd1, List.all_append]
        simp [hp]
    | true =>
      rw [if_neg (by decide)]
      refine ⟨fun b o q => ?_, acc, s4 _ _ hH, by omega, ?_⟩
      · have n := ne_of_none q hA
        show (if b = A then none else H4 b) = _
        rw [if_neg n]
        exact s4 _ _ (sm _ _ q)
      · rw [take_more hd1, List.all_append, h2]
        simp [hp]
  · intro H' ⟨s, acc, hH, h1, h2⟩
    have sm : Same H H' := fun b o q => by
      have r := s b o q
      simp only [if_neg (ne_of_none q hA)] at r
      exact r
    rw [hl, List.take_length] at h2
    exact hd H' acc sm (SqL.of hH) (by omega) h2
end Hc


set_option Elab.async false
set_option linter.all false
set_option maxRecDepth 100000
set_option maxHeartbeats 4000000
set_option autoImplicit false
namespace PySem
open Sem (wp)
open AutoSeq1 (wpAny_loadPart')
theorem meets_enumerate_newT (l : Addr) (items : Array Value) (n : Nat) (dct : Option Addr) (sl : Array (Option Value)) :
    Meets (Builtin.«enumerate.__new__» ⟨[.type "enumerate", .ref l], []⟩) (fun _ R s => s.heap.get? l = some { cls := .type "tuple", dict := dct, data := .seq items n, slots := sl } ∧
      R (.ok (.ret (.ref (s.heap.push { cls := .type "tuple_iterator", data := .fields #[.ref l, .int 0 0] }).objs.size)))
        { s with heap := (s.heap.push { cls := .type "tuple_iterator", data := .fields #[.ref l, .int 0 0] }).push { cls := .type "enumerate", data := .fields #[.none, .bool false, .ref s.heap.objs.size, rawInt 0, .none, .none] } }) :=
  .of_wp fun prog w A R s h => by
    obtain ⟨hp, g, d, tk, os⟩ := s; obtain ⟨hl, h⟩ := h
    have hsub := sub_enumerate
    have hL : Heap.IsTuple (Shared.heap ⟨hp, g, d, tk, os⟩) l items := ⟨_, hl, rfl, n, rfl⟩
    wp_walk using wpAny_loadPart' hl
    refine wpAny_stack_any fun st => wpAny_pure ?_
    split
    · rename_i c _ _ _ _ _
      cases (c == Value.type "enumerate")
      · wp_walk using wpAny_loadPart' hl, wpAny_pyIter_tuple hL
        exact ⟨_, rfl, h⟩
      · wp_walk using wpAny_loadPart' hl, wpAny_pyIter_tuple hL
        exact ⟨_, rfl, h⟩
    · wp_walk using wpAny_loadPart' hl, wpAny_pyIter_tuple hL
      exact ⟨_, rfl, h⟩
section
variable {prog : Program} {w : World} {A : Around} {E : Value → Shared → Prop} {s : Shared}
theorem call_enumerate_tuple {l : Addr} {items : Array Value} {Q : Value → Shared → Prop} (hL : s.heap.IsTuple l items)
    (h : ∀ h', IsEnum h' (s.heap.objs.size + 1) s.heap.objs.size 0 .none → h'.IsTupleIter s.heap.objs.size l 0 → h'.objs.size = s.heap.objs.size + 2 →
      (∀ b o, s.heap.get? b = some o → h'.get? b = some o) → Q (.ref (s.heap.objs.size + 1)) { s with heap := h' }) :
    wpAny (model prog w) A (call (.type "enumerate") [.ref l]) Q E s := by
  obtain ⟨⟨c, dct, dt, sl⟩, hl, hc, n, hd⟩ := hL
  replace hc : c = .type "tuple" := hc
  replace hd : dt = .seq items n := hd
  subst hc hd
  refine callType_new F.called_enumerate (by decide) (F.typeCall_enumerate_1 _) (F.newCall_enumerate_1 _) (fun obj => F.args_object_init_2 obj _) F.entry_enumerate_new
    (meets_enumerate_newT l items n dct sl) ⟨hl, ?_⟩
  have hz : (s.heap.push { cls := .type "tuple_iterator", data := .fields #[.ref l, .int 0 0] }).objs.size = s.heap.objs.size + 1 := Heap.size_push ..
  show _ ∧ _
  rw [hz]
  have he : IsEnum ((s.heap.push { cls := .type "tuple_iterator", data := .fields #[.ref l, .int 0 0] }).push
      { cls := .type "enumerate", data := .fields #[.none, .bool false, .ref s.heap.objs.size, rawInt 0, .none, .none] }) (s.heap.objs.size + 1) s.heap.objs.size 0 .none := by
    have := Heap.get?_push_size (s.heap.push { cls := .type "tuple_iterator", data := .fields #[.ref l, .int 0 0] })
      (o := { cls := .type "enumerate", data := .fields #[.none, .bool false, .ref s.heap.objs.size, rawInt 0, .none, .none] }) rfl
    rw [hz] at this; exact this
  refine ⟨⟨_, he, rfl⟩, h _ he ⟨_, Heap.get?_push_of_some _ (Heap.get?_push_size _ rfl), rfl, rfl⟩ (by rw [Heap.size_push, hz]) fun b o x => Heap.get?_push_of_some _ (Heap.get?_push_of_some _ x)⟩
theorem wpAny_pyNext_enum_endT {e it l : Addr} {i : Nat} {items : Array Value} {old : Value} {Q : Option Value → Shared → Prop} (hh : A.handled = none)
    (he : IsEnum s.heap e it i old) (hit : s.heap.IsTupleIter it l i) (hl : s.heap.IsTuple l items) (hx : items[i]? = none)
    (hQ : ∀ h', Heap.ExtBut it s.heap h' → Q none { s with heap := h' }) : wpAny (model prog w) A (pyNext (.ref e)) Q E s := by
  have hT : s.TypeIs (.ref e) "enumerate" := ⟨_, he, rfl⟩
  unfold pyNext
  refine wpAny_bind (wpAny_attempt (wpAny_callSpecial?_slot (name := Str.ofString "__next__") hT F.slot_enumerate_next
    (wpAny_call_entry F.slot_enumerate_next hT F.entry_enumerate_next ?_ (F.args_enumerate_next_1 _))))
  show wpAny _ _ (field (.ref e) 2 >>= _) _ _ _
  refine wpAny_bind (wpAny_field he rfl (x := .ref it) rfl ?_)
  refine wpAny_bind (wpAny_nextOf_tuple_end hh hit hl hx fun h' x he' hx' => ?_)
  obtain ⟨o, ho, hc⟩ := hx'
  refine wpAny_bind (wpAny_isInstance (T := "StopIteration") (b := true) ⟨o, ho, hc⟩ isSubtype_stop ?_)
  exact wpAny_pure (hQ _ he')
end
end PySem
namespace L2
open PySem PySem.Spec PyProof.Rows
/-- the tuple at a as it stands at each turn, each item in a new pair with its number -/
def IteT (K : PySem.W.Frag) (a : Addr) : It :=
  ⟨fun i H => ∃ (xs : List V) (x : V), SqT K H a xs ∧ xs[i]? = some x, fun i H v H' => ∃ T x, v = .ref T ∧ H T = none ∧ H' = upd H T (.tup [.int (i : Nat), x]) ∧ ∀ xs, SqT K H a xs → xs[i]? = some x, fun i H => ∃ xs : List V, SqT K H a xs ∧ xs.length ≤ i⟩
theorem turn_enumT {P : Program} {w : World} {K : PySem.W.Frag} {elts : List Expr} {kk : Nat} {tpos : Pos} (a e it : Addr) :
    Turn P w K (.Tuple elts kk tpos) (IteT K a) [e, it] e (fun i h => (∃ old, IsEnum h e it ((i : Nat) : Int) old) ∧ h.IsTupleIter it a i ∧ e ≠ it ∧ a ≠ it ∧ e ≠ a) where
  mem := by simp
  obj := fun i h st b hb => by
    obtain ⟨⟨old, he⟩, ⟨o, ho, hc, hd⟩, _⟩ := st
    have e' : b = e ∨ b = it := by simpa using hb
    rcases e' with z | z
    · rw [z]; exact ⟨_, he, fun v q => nomatch q⟩
    · rw [z]; exact ⟨o, ho, fun v q => by rw [hd] at q; cases q⟩
  keep := fun i h h' st k => let ⟨⟨old, he⟩, hi, hne⟩ := st; ⟨⟨old, k e (by simp) _ he⟩, hi.at fun o q => k it (by simp) o q, hne⟩
  item := by
    intro X hP hw hK hc i pins s σ H E I hf st hg
    subst hP hw hK
    obtain ⟨⟨old, he⟩, hit, hne, hai, hea⟩ := st
    obtain ⟨xs, x, hq, hx⟩ := hg
    obtain ⟨its, rv, p, hz⟩ := I.tuple hq
    obtain ⟨u, hu, ru⟩ := rv.get hx
    have hel : e < s.heap.objs.size := Heap.lt_size he
    have hil : it < s.heap.objs.size := by obtain ⟨_, q, _⟩ := hit; exact Heap.lt_size q
    have hlt : i < its.toArray.size := by
      rw [List.size_toArray]
      exact (List.getElem?_eq_some_iff.mp hu).1
    refine wpAny_pyNext_enum_itemD (Draws.tuple (A := X.A.in1) (I.ok.hd hc) it a hai its.toArray) he ⟨hit, p⟩ hlt hne (by simp [hne, hea]) fun x' h' tk hx' ho st' hT hsz hk => ?_
    obtain ⟨hit', _⟩ := st'
    obtain rfl : x' = u := by
      have q : its[i]? = some x' := by simpa using hx'
      rw [hu] at q
      exact (Option.some.inj q).symm
    refine ⟨_, rfl, wpAny_letOwnedTupleGo_enum (s := { s with heap := h', toks := tk + 1 }) ho fun h'' he' sb => ?_⟩
    have hT2 : h''.get? s.heap.objs.size = some { cls := .type "tuple", data := .seq #[.int i tk, x'] } := (sb.2 _ (Nat.ne_of_gt hel)).trans hT
    have new : ObjOk X.prog X.w (upd H s.heap.objs.size (.tup [.int (i : Nat), x])) h'' s.heap.objs.size (.tup [.int (i : Nat), x]) :=
      ⟨by show 2 ≤ sizeLine; decide, [.int i tk, x'], .cons ⟨_, rfl⟩ (.cons ru .nil), ⟨_, hT2, rfl, _, rfl⟩⟩
    have I1 : Inv X pins σ (upd H s.heap.objs.size (.tup [.int (i : Nat), x])) { s with heap := h'', toks := tk + 1 } :=
      I.turnedNew (ch := [e, it]) (fun b ob hb q => (sb.2 b (fun z => hb (by simp [z]))).trans (hk b ob (fun z => hb (by simp [z])) (fun z => hb (by simp [z])) q)) hf (Nat.le_refl _) new
    refine ⟨.ref s.heap.objs.size, _, I1, rfl, ⟨_, x, rfl, I.hok.fresh (Nat.le_refl _), rfl, fun ys hy => by rw [I.tuple_inj hy hq]; exact hx⟩, ⟨⟨x', ?_⟩, hit'.at fun o q => (sb.2 it (Ne.symm hne)).trans q, hne, hai, hea⟩, fun b hb => ?_⟩
    · have e1 : ((i + 1 : Nat) : Int) = (i : Int) + 1 := by omega
      rw [e1]; exact he'
    · have hb' : b < s.heap.objs.size := by
        have e' : b = e ∨ b = it := by simpa using hb
        rcases e' with z | z
        · rw [z]; exact hel
        · rw [z]; exact hil
      rw [upd_ne (Nat.ne_of_lt hb')]
      exact (hf b hb).1
  done := by
    intro X hP hw hK hc i pins s σ H E I hf st hg
    subst hP hw hK
    obtain ⟨⟨old, he⟩, hit, hne, hai, hea⟩ := st
    obtain ⟨xs, hq, hx⟩ := hg
    obtain ⟨its, rv, p, hz⟩ := I.tuple hq
    obtain ⟨f0, f1, f2, f3, f4, f5⟩ := hf it (by simp)
    have hl := rv.length
    exact wpAny_pyNext_enum_endT (I.ok.hd hc) he hit p (by simp; omega) fun h' eb => ⟨rfl, I.turned (t' := s.toks) (fun b o hb q => eb b o hb q) f0 f1 f3 f4 f5⟩
  self := fun A i s Q E st h => let ⟨⟨_, he⟩, _⟩ := st; wpAny_pyIter_enum he h
def iEnumT (K : PySem.W.Frag) (ta : TA) : TI := fun σ H R => ta σ H fun vs H1 => ∃ a xs, vs = [.ref a] ∧ SqT K H1 a xs ∧ R (IteT K a) H1
theorem pi_enumT {X : Cx} {e : Expr} {ta : TA} {p pos tpos : Pos} {elts : List Expr} {kk : Nat} (hg : Gl X "enumerate") (hm : X.mg "enumerate" = none) (ha : PA X [e] ta) (hs : starEach [e] X.env = [(false, eval e X.env)] := by rfl) :
    PI X (.Tuple elts kk tpos) (.Call (.Name "enumerate" p) [e] [] pos) (iEnumT X.K ta) := by
  refine ⟨fun pins s σ H R I h => ?_⟩
  refine Call_ (ld_blt I hg hm boot_enumerate (PyProof.Rows.callWith_type1 (thn (ha.run pos pins s σ H _ I h) fun us s1 ⟨vs, H1, I1, r1, q1⟩ => ?_) hs rfl))
  obtain ⟨a, xs, ex, hq, q⟩ := q1
  subst ex
  cases r1 with
  | cons r rr =>
    cases rr
    cases r
    obtain ⟨its, rv, p', hz⟩ := I1.tuple hq
    have hal : a < s1.heap.objs.size := by obtain ⟨_, q, _⟩ := p'; exact Heap.lt_size q
    refine call_enumerate_tuple p' fun h' he hit hsz hk => wpAny_pyIter_enum he ?_
    have I2 : Inv X pins σ H1 { s1 with heap := h' } := I1.kept (t' := s1.toks) hk
    refine ⟨s1.heap.objs.size + 1, [s1.heap.objs.size + 1, s1.heap.objs.size], _, _, H1, rfl, I2, turn_enumT a (s1.heap.objs.size + 1) s1.heap.objs.size, ⟨⟨.none, he⟩, hit, Nat.succ_ne_self _, Nat.ne_of_lt hal, Ne.symm (Nat.ne_of_lt (Nat.lt_succ_of_lt hal))⟩, fun b hb => ?_, q⟩
    have e' : b = s1.heap.objs.size + 1 ∨ b = s1.heap.objs.size := by simpa using hb
    have hle : s1.heap.objs.size ≤ b := by
      rcases e' with z | z
      · rw [z]; exact Nat.le_add_right _ _
      · rw [z]; exact Nat.le_refl _
    exact I1.fpOk hle (I1.hok.fresh hle)
end L2


set_option Elab.async false
set_option linter.all false
set_option maxRecDepth 100000
set_option maxHeartbeats 4000000
set_option autoImplicit false
namespace L2
open PySem PySem.Spec PyProof.Rows
section
variable {X : Cx}
theorem mk_endN {pins : List (Addr × Obj)} {σ : St} {H1 H2 : Hp} {Q : XK} {hp hp2 h2 : Heap} {g1 g2 : Array GenState} {d1 d2 : Drawn} {t1 t2 : Nat} {os1 os2 : OsState} {a C : Addr} (T : Raises X (.ref C)) (I1 : Inv X pins σ H1 ⟨hp, g1, d1, t1, os1⟩)
    (ha : hp.objs.size ≤ a) (k : ∀ b o, hp.get? b = some o → hp2.get? b = some o) (un : Un (frs X.stack) [] (upd H1 a (exo a C none)) H2 hp2 h2) (hok : HOk X.prog X.w H2 h2) (ho : os2 = os1) (hb : AllBare g2)
    (e2 : H2 = upd H1 a (exo a C none)) (q : Q (.ref C) none H1) : MkP X pins σ Q (.ref a) ⟨h2, g2, d2, t2, os2⟩ := by
  have ea : H2 a = some (exo a C none) := by rw [e2]; exact upd_same
  obtain ⟨t0, hoe⟩ := exo_at hok ea
  have hn : H1 a = none := I1.hok.fresh ha
  obtain ⟨G, g1', g2'⟩ := restrict h2 fun b => decide (b ≠ a)
  have gk : ∀ b, b ≠ a → G.get? b = h2.get? b := fun b hb => g1' b (decide_eq_true hb)
  have ge : G.get? a = none := g2' a (by simp)
  have nha : ∀ {b : Addr} {o : Obj}, hp.get? b = some o → b ≠ a := fun {b o} z => Nat.ne_of_lt (Nat.lt_of_lt_of_le (Heap.lt_size z) ha)
  have up : ∀ {b : Addr}, b ≠ a → H1 b = none → upd H1 a (exo a C none) b = none := fun {b} hb n => by rw [upd_ne hb]; exact n
  have dn : del H2 a = H1 := by
    funext b
    by_cases z : b = a
    · subst z; rw [del_same, hn]
    · rw [del_ne z, e2, upd_ne z]
  have U : Un (frs X.stack) [] H1 (del H2 a) hp G := {
    keep := fun b o z n hf hx => by
      rw [gk b (nha z)]
      exact un.keep b o (k b o z) (up (nha z) n) hf hx
    slot := fun b o z n hf hx => by
      rw [gk b (nha z)]
      exact un.slot b o (k b o z) (up (nha z) n) hf hx
    free := fun b o z n hx => by
      rw [del_ne (nha z)]
      exact un.free b o (k b o z) (up (nha z) n) hx
    there := fun b o z hx => by
      rw [gk b (nha z)]
      exact un.there b o (k b o z) hx
    tups := fun b xs z => by
      rw [del_ne (ne_of_none z hn)]
      exact un.tups b xs (by rw [upd_ne (ne_of_none z hn)]; exact z)
    frzs := fun b o v z => by
      rw [del_ne (ne_of_none z hn)]
      exact un.frzs b o v (by rw [upd_ne (ne_of_none z hn)]; exact z)
    tbls := fun b ps z => by
      rw [del_ne (ne_of_none z hn)]
      exact un.tbls b ps (by rw [upd_ne (ne_of_none z hn)]; exact z) }
  have hok3 : HOk X.prog X.w (del H2 a) G := fun b o z => by
    have hba : b ≠ a := fun e => by
      rw [e, del_same] at z
      cases z
    rw [del_ne hba] at z
    have noa : ∀ {c : Addr}, H2 c = some (.own b) → c ≠ a := fun {c} hc => at_ne ea hc exo_own
    exact (hok b o z).stay (fun c v hc y => by
        have hca : c ≠ a := by
          rcases hc with hc | hc
          · rw [hc]
            exact hba
          · exact noa hc
        rw [gk c hca]
        exact y)
      (fun c hc => by rw [del_ne (noa hc)]; exact hc) (fun c xs hc => by rw [del_ne (at_ne ea hc exo_tup)]; exact hc)
  have J : Inv X pins σ (del H2 a) ⟨G, g2, d2, t2, os2⟩ := I1.call' (ch := []) ho U hok3 hb (fun b z => absurd z (by simp))
  rw [dn] at J
  refine ⟨a, _, _, ⟨G, g2, d2, t2, os2⟩, _, .ref C, none, rfl, J, fun b o z => ?_, ge, hoe, ⟨rfl, rfl⟩, rfl, rfl, hn, rfl, hb, T, q⟩
  by_cases hba : b = a
  · rw [hba, ge] at z
    cases z
  · exact (gk b hba).symm.trans z
/-- C() of an own exception whose __init__ does nothing -/
def spInitN : Sp := fun vs H Q _ => ∃ a : Addr, vs = [.ref a] ∧ Q .non H
def tMkN (C : Addr) : St → Hp → XK → Prop := fun _ H Q => Q (.ref C) none H
theorem pmk_oexN {CX : CXT} {x : Str} {C fI : Addr} {k : Nat} {fd : FuncData} {ps : List Str} {p pos : Pos} (T : OexC X.K C) (iC : PySem.W.findIn X.K (.ref C) "__init__" = some (some (.ref fI))) (tI : PySem.W.typeIn X.K (.ref fI) = some (.type "function"))
    (F1 : FnOk X.prog X.w X.K X.mg X.base CX k fI fd ps spInitN) (hr : Room (k + 1) X.A) (hb : Binds X.K fd ps []) (hx : Passes CX X (fun _ _ _ => False)) (hg : Gl X x) (hm : X.mg x = some (.ref C))
    (hdb : (x == ("__debug__" : Str)) = false := by decide) :
    PMk X (.Call (.Name x p) [] [] pos) (tMkN C) := by
  intro pins s1 σ H1 Q I1 h
  obtain ⟨nm, q, N, bs, bm, sn, sub, ab, col, dd, k0, k1, k2, k3, k5, hC, hbm⟩ := T.cls
  refine wpAny_Call_Name_kw (ld_glob I1 hg hm ?_ hdb)
  refine PySem.W.callWith_K0 I1.kIn T.kC ?_
  show wpAny _ _ (call (.ref C) []) _ _ _
  obtain ⟨hp, g, dr, tk, os⟩ := s1
  have hsz : hp.objs.size ≤ hp.objs.size + 1 := Nat.le_succ _
  have hn : H1 (hp.objs.size + 1) = none := I1.hok.fresh hsz
  have kk : ∀ b o, hp.get? b = some o → ((hp.push (PySem.W.kdv_tup [])).push (PySem.HandSPX.excO C hp.objs.size)).get? b = some o := fun b o e => Heap.get?_push_of_some _ (Heap.get?_push_of_some _ e)
  have hget : ((hp.push (PySem.W.kdv_tup [])).push (PySem.HandSPX.excO C hp.objs.size)).get? (hp.objs.size + 1) = some (PySem.HandSPX.excO C hp.objs.size) := by heap_get
  have I2 : Inv X pins σ (upd H1 (hp.objs.size + 1) (exo (hp.objs.size + 1) C none)) ⟨(hp.push (PySem.W.kdv_tup [])).push (PySem.HandSPX.excO C hp.objs.size), g, dr, tk, os⟩ :=
    I1.laid (t' := tk) (a := hp.objs.size + 1) (o := exo (hp.objs.size + 1) C none) (h' := (hp.push (PySem.W.kdv_tup [])).push (PySem.HandSPX.excO C hp.objs.size)) kk hsz (exo_ok hget)
  have hq : spInitN [V.ref (hp.objs.size + 1)] (upd H1 (hp.objs.size + 1) (exo (hp.objs.size + 1) C none)) (fun v H2 => v = .non ∧ H2 = upd H1 (hp.objs.size + 1) (exo (hp.objs.size + 1) C none)) (fun _ _ _ => False) := ⟨_, rfl, rfl, rfl⟩
  have r2 : Vals [V.ref (hp.objs.size + 1)] [Value.ref (hp.objs.size + 1)] := .cons rfl .nil
  have hl : ([Value.ref (hp.objs.size + 1)] ++ ([] : List Value)).length = ps.length := by
    rw [← F1.len _ _ _ _ hq]; rfl
  refine wpAny_call (PySem.HandSPX.call_own F.excBase_ValueError (fun Y => PySem.HandSPX.refsVE_contains Y bm hbm) (I1.kIn _ _ hC) (PySem.W.looks_findIn I1.kIn iC) (fun self => PySem.W.bind_fn I1.kIn self tI) (by show 0 ≤ sizeLine; decide)
    (codeAny_mono (F1.run _ X.stack _ _ ⟨[Value.ref (hp.objs.size + 1)], []⟩ [Value.ref (hp.objs.size + 1)] _ _ (fun _ _ _ => False) (hr.make C [] []) (I2.env0.make C [] []) (hb _ [Value.ref (hp.objs.size + 1)] I2.kIn hl) r2 hq) fun r s' hq' => ?_))
  cases r with
  | error er => exact hx pins σ _ _ er s' I2 hq'
  | ok fl =>
    cases fl with
    | ret u =>
      obtain ⟨v, H2, os2, bare2, un2, hok2, rv, ev, e2⟩ := hq'
      subst ev
      obtain ⟨h2, g2, d2, t2, os'⟩ := s'
      exact ⟨rv, mk_endN (raises_own T.exC T.tyC) I1 hsz kk un2 hok2 os2 bare2 e2 h⟩
    | next => exact False.elim hq'
    | brk => exact False.elim hq'
    | cont => exact False.elim hq'
end
end L2


set_option Elab.async false
set_option linter.all false
set_option maxRecDepth 100000
set_option maxHeartbeats 1000000
set_option autoImplicit false
namespace HT
open PySem PySem.Spec PyProof.Rows
section
variable {prog : Program} {w : World} {A : Around} {E : Value → Shared → Prop} {s : Shared}
theorem adjust_rev (n : Nat) : Builtin.Slice.sliceAdjust none none (-1) (n : Int) = ((n : Int) - 1, -1) := by
  unfold Builtin.Slice.sliceAdjust
  have h1 : ((-1 : Int) < 0) := by omega
  simp only [h1, if_true]
theorem places_rev (n : Nat) : Builtin.Slice.slicePlaces ((n : Int) - 1) (-1) (-1) = n := by
  unfold Builtin.Slice.slicePlaces
  have h1 : ¬ ((-1 : Int) > 0) := by omega
  simp only [h1, if_false]
  split <;> (try simp) <;> omega
theorem sliceApplied_rev {sl : Addr} {n : Nat} {t : Tok} {Q : Int × Int × Nat → Shared → Prop} (hs : s.heap.IsSliceOf sl .none .none (.int (-1) t))
    (h : Q ((n : Int) - 1, -1, n) s) : wpAny (model prog w) A (Builtin.Slice.sliceApplied (.ref sl) (pure (n : Int))) Q E s := by
  obtain ⟨os, hos, hcs, hds⟩ := id hs
  unfold Builtin.Slice.sliceApplied Builtin.Slice.sliceFields
  refine wpAny_bind (wpAny_bind (wpAny_field hos hds (x := .none) rfl (wpAny_bind (wpAny_field hos hds (x := .none) rfl (wpAny_bind (wpAny_field hos hds (x := .int (-1) t) rfl (wpAny_pure ?_)))))))
  refine wpAny_bind (slicePart_ (.int (-1) t) ?_)
  show wpAny _ _ (if ((-1 : Int) == 0) = true then _ else _) _ _ s
  rw [if_neg (by decide)]
  refine wpAny_bind (slicePart_ .none (wpAny_bind (slicePart_ .none (wpAny_bind (wpAny_pure ?_)))))
  show wpAny _ _ (match Builtin.Slice.sliceAdjust none none (-1) (n : Int) with | (lo, hi) => pure (lo, (-1 : Int), Builtin.Slice.slicePlaces lo hi (-1))) _ _ s
  rw [adjust_rev n]
  show wpAny _ _ (pure ((n : Int) - 1, (-1 : Int), Builtin.Slice.slicePlaces ((n : Int) - 1) (-1) (-1))) _ _ s
  rw [places_rev]
  exact wpAny_pure h
theorem fm_congr {α β : Type} {f g : α → Option β} : ∀ l : List α, (∀ x ∈ l, f x = g x) → l.filterMap f = l.filterMap g
  | [], _ => rfl
  | x :: l, h => by
    have e := h x List.mem_cons_self
    have r := fm_congr l fun y hy => h y (List.mem_cons_of_mem _ hy)
    rw [List.filterMap_cons, List.filterMap_cons, e, r]
theorem pick_rev (xs : Array Value) : ((List.range xs.size).filterMap fun (m : Nat) => xs[(((xs.size : Int) - 1) + (m : Int) * (-1)).toNat]?).toArray = xs.toList.reverse.toArray := by
  have e : (List.range xs.size).filterMap (fun (m : Nat) => xs[(((xs.size : Int) - 1) + (m : Int) * (-1)).toNat]?) = (List.range xs.size).filterMap ((xs[·]?) ∘ fun k => xs.size - 1 - k) :=
    fm_congr _ fun m hm => by
      have hm := List.mem_range.mp hm
      have e1 : (((xs.size : Int) - 1) + (m : Int) * (-1)).toNat = xs.size - 1 - m := by omega
      rw [e1]; rfl
  rw [e, ← List.filterMap_map, PySem.W.krv_range, List.filterMap_reverse, PySem.W.krv_all]
theorem getItem_tuple_rev {t sl : Addr} {items : Array Value} {u : Tok} {Q : Value → Shared → Prop} (ht : IsTup s.heap t items) (hs : s.heap.IsSliceOf sl .none .none (.int (-1) u))
    (h : Q (.ref s.heap.objs.size) { s with heap := s.heap.push { cls := .type "tuple", data := .seq items.toList.reverse.toArray } })
    (hsz : items.size ≤ sizeLine) : wpAny (model prog w) A (getItem (.ref t) (.ref sl)) Q E s := by
  have htake : sizeOk (.seq items.toList.reverse.toArray) := by
    show items.toList.reverse.toArray.size ≤ sizeLine
    rw [List.size_toArray, List.length_reverse, Array.length_toList]
    omega
  obtain ⟨os, hos, hcs, hds⟩ := id hs
  have hTs : s.TypeIs (.ref sl) "slice" := ⟨os, hos, hcs⟩
  unfold getItem
  try with_reducible refine wpAny_holding ?_
  first | refine wpAny_bind (wpAny_pure ?_) | skip
  refine wpAny_bind (wpAny_sequenceKey ht.typeIs (by decide) ?_)
  refine wpAny_bind (wpAny_callSpecial?_slot (name := Str.ofString "__getitem__") ht.typeIs PyProof.Rows.slot_tuple_getitem
    (wpAny_call_entry PyProof.Rows.slot_tuple_getitem ht.typeIs entry_tuple_getitem ?_ (args_tuple_getitem _ _)))
  show wpAny _ _ (Builtin.Tuple.tupleItemsOf (.ref t) >>= _) _ _ s
  refine wpAny_bind (tupleItemsOf_ ht ?_)
  refine wpAny_bind (wpAny_typeOf hTs ?_)
  rw [if_pos (by decide)]
  refine wpAny_bind (sliceApplied_rev hs ?_)
  have hno : ¬ ((((items.size : Int) - 1) == 0 && (-1 : Int) == 1 && items.size == items.size) = true) := by
    intro q
    rw [Bool.and_eq_true, Bool.and_eq_true] at q
    exact absurd q.1.2 (by decide)
  show wpAny _ _ (if (((items.size : Int) - 1) == 0 && (-1 : Int) == 1 && items.size == items.size) = true then _ else _) _ _ s
  rw [if_neg hno, pick_rev]
  first
    | exact wpAny_bind (m := Builtin.Tuple.tupleExact _) (wpAny_newObj_type (wpAny_pure ⟨_, rfl, wpAny_pure h⟩) htake)
    | exact wpAny_bind (m := Builtin.Tuple.tupleExact _) (wpAny_newObj_type (wpAny_bind (wpAny_pure (wpAny_pure ⟨_, rfl, wpAny_pure h⟩))) htake)
    | exact wpAny_bind (wpAny_bind (m := Builtin.Tuple.tupleExact _) (wpAny_newObj_type (wpAny_pure (wpAny_pure ⟨_, rfl, wpAny_pure h⟩)) htake))
    | exact wpAny_bind (wpAny_bind (m := Builtin.Tuple.tupleExact _) (wpAny_newObj_type (wpAny_pure ⟨_, rfl, wpAny_pure h⟩) htake))
end
end HT
namespace L2
open PySem PySem.Spec PyProof.Rows
section
variable {X : Cx}
/-- set(t), t a tuple of ints -/
def rSetT (K : PySem.W.Frag) (w : World) : List V → Hp → VK → Prop := fun xs H Q => ∃ (l : Addr) (ns : List Int), xs = [.ref l] ∧ SqT K H l (ns.map V.int) ∧ ns.length ≤ 1000 ∧
  ∀ a n, n ≤ ns.length → H a = none → Q (.ref a) (upd H a (SetO w a (fun j => decide (j ∈ ns)) n))
theorem cr_setT (hc : X.calm = true) : CallR X (.type "set") (rSetT X.K X.w) := by
  intro pins s σ H xs us Q I r h
  obtain ⟨l, ns, rfl, hq, hl, q⟩ := h
  obtain ⟨u, rfl, ru⟩ := vals1 r
  cases ru
  obtain ⟨its, rv, pt, hz⟩ := I.tuple hq
  have hi : IntsAre its.toArray.toList ns := ints_of_vals rv
  refine call_set_tupI ns (I.ok.hd hc) (show s.heap.IsTuple l its.toArray from pt) hi (by unfold scanBound; omega) fun h' tk c R1 hcn k => ?_
  exact ⟨.ref s.heap.objs.size, _, I.laid (t' := tk) (h' := h') (o := SetO X.w s.heap.objs.size (fun j => decide (j ∈ ns)) c) k (Nat.le_refl _) (setO_new R1), rfl, q _ c hcn (I.hok.fresh (Nat.le_refl _))⟩
def tRevT (K : PySem.W.Frag) (te : TE) : TE := fun σ H Q => te σ H fun x H1 => ∃ a xs, x = .ref a ∧ SqT K H1 a xs ∧ ∀ p, H1 p = none → Q (.ref p) (upd H1 p (.tup xs.reverse))
theorem pe_revT {e : Expr} {te : TE} {k : Nat} {p1 p2 p3 pos : Pos} (he : PE X e te) : PE X (.Subscript e (.Slice none none (some (.UnaryOp .USub (.Constant (.int 1) k p1) p2)) p3) pos) (tRevT X.K te) := by
  refine ⟨fun pins s σ H Q I h => ?_⟩
  refine Subscript_ (thn (he.run pins s σ H _ I h) fun v s1 ⟨x, H1, I1, r1, q1⟩ => ?_)
  obtain ⟨a, xs, ex, hx, q⟩ := q1
  subst ex
  cases r1
  have hst : PO X (some (.UnaryOp .USub (.Constant (.int 1) k p1) p2)) (tPart (tUn (rU fun i => .int (-i)) (tC (.int 1)))) := po_some (pe_un un_neg pe_int)
  refine wpAny_Slice (thn (po_none.run pins s1 σ H1 (fun o H2 => o = none ∧ H2 = H1) I1 ⟨rfl, rfl⟩) fun vl s2 ⟨l, H2, I2, pl, el, e2⟩ => ?_)
  subst el e2
  refine thn (po_none.run pins s2 σ H2 (fun o H3 => o = none ∧ H3 = H2) I2 ⟨rfl, rfl⟩) fun vu s3 ⟨u, H3, I3, pu, eu, e3⟩ => ?_
  subst eu e3
  refine thn (hst.run pins s3 σ H3 (fun o H4 => o = some (-1) ∧ H4 = H3) I3 ⟨1, rfl, -1, rfl, rfl, rfl⟩) fun vs s4 ⟨o, H4, I4, ps, eo, e4⟩ => ?_
  subst eo e4
  cases pl
  cases pu
  cases ps with
  | int _ tt =>
  have I5 : Inv X pins σ H4 { s4 with heap := s4.heap.push { cls := .type "slice", data := .fields #[.none, .none, .int (-1) tt] } } := I4.kept (t' := s4.toks) fun b ob q => Heap.get?_push_of_some _ q
  obtain ⟨its, r, ht, hz⟩ := I5.tuple hx
  have hlen := r.length
  show wpAny (model X.prog X.w) X.A (subscriptTail e (.Slice none none (some (.UnaryOp .USub (.Constant (.int 1) k p1) p2)) p3) (.ref a) (.ref s4.heap.objs.size)) (EP X pins σ Q) X.xe { s4 with heap := s4.heap.push { cls := .type "slice", data := .fields #[.none, .none, .int (-1) tt] } }
  refine tail_any (ops := [.ref a, .ref s4.heap.objs.size]) ht.typeIs (PyProof.Rows.slot_tuple_getitem.lookup) ?_ (by with_unfolding_all rfl)
  refine HT.getItem_tuple_rev ht (Heap.IsSliceOf.new _ .none .none (.int (-1) tt)) ?_ (by rw [List.size_toArray]; omega)
  refine ⟨.ref _, _, I5.laid (t' := s4.toks) (o := .tup xs.reverse) (fun b ob q => Heap.get?_push_of_some _ q) (Nat.le_refl _) ?_, rfl, q _ (I5.hok.fresh (Nat.le_refl _))⟩
  exact ⟨by rw [List.length_reverse]; exact hz, _, r.reverse, IsTup.new _ _⟩
end
end L2
namespace Hc
open PySem L2
/-- [f(a, b) for a, b in zip(s, t)]: two tuples, perhaps of unlike lengths -/
theorem lc_zipT {K : PySem.W.Frag} {a b : Addr} {xs ys : List V} {g : TG} {tt : TT} {te : TE} {vs : List Nat} {σ : St} {H1 : Hp} {D : Addr} {Qd : Hp → Prop} (Pv : Nat → Hp → Prop) (h0 : Pv 0 (upd H1 D (.lst [])))
    (hl : ∀ i H, Pv i H → SqT K H a xs ∧ SqT K H b ys)
    (hs : ∀ (i : Nat) (x y : V) (T : Addr) (H : Hp), xs[i]? = some x → ys[i]? = some y → Pv i H → H T = none → g (.ref T) (wipe σ vs) (upd H T (.tup [x, y])) fun σ2 H2 => wipe σ2 vs = wipe σ vs ∧ tt σ2 H2 fun b H3 =>
      if b = true then te σ2 H3 fun y H4 => ∃ acc, H4 D = some (.lst acc) ∧ acc.length < sizeLine ∧ Pv (i + 1) (upd H4 D (.lst (acc ++ [y]))) else Pv (i + 1) H3) (hd : ∀ H, Pv (min xs.length ys.length) H → Qd H) :
    ∃ W : Nat → Nat → Hp → Prop, (∃ m, W 0 m (upd H1 D (.lst []))) ∧ ∀ i m H, W i m H →
      ((RZ.ItzT K a b).stop i H ∧ Qd H) ∨ ((RZ.ItzT K a b).go i H ∧ ∃ Nx : Hp → Prop, (∀ H', Nx H' → ∃ m', m' < m ∧ W (i + 1) m' H') ∧ ∀ x H', (RZ.ItzT K a b).yld i H x H' → g x (wipe σ vs) H' fun σ2 H2 => wipe σ2 vs = wipe σ vs ∧ tt σ2 H2 fun b H3 =>
        if b = true then te σ2 H3 fun y H4 => ∃ acc, H4 D = some (.lst acc) ∧ acc.length < sizeLine ∧ Nx (upd H4 D (.lst (acc ++ [y]))) else Nx H3) := by
  refine ⟨fun i m H => m = min xs.length ys.length - i ∧ i ≤ min xs.length ys.length ∧ Pv i H, ⟨_, rfl, Nat.zero_le _, h0⟩, ?_⟩
  rintro i m H ⟨rfl, hi, p⟩
  obtain ⟨qx, qy⟩ := hl i H p
  by_cases hlt : i < min xs.length ys.length
  · have h1 : i < xs.length := by omega
    have h2 : i < ys.length := by omega
    refine .inr ⟨⟨xs, ys, _, _, qx, qy, List.getElem?_eq_getElem h1, List.getElem?_eq_getElem h2⟩, Pv (i + 1), fun H' p' => ⟨min xs.length ys.length - (i + 1), by omega, rfl, hlt, p'⟩, fun v H' y => ?_⟩
    obtain ⟨T, x', y', rfl, hT, rfl, f1, f2⟩ := y
    exact hs i x' y' T H (f1 xs qx) (f2 ys qy) p hT
  · have e : i = min xs.length ys.length := by omega
    subst e
    refine .inl ⟨⟨xs, ys, qx, qy, ?_⟩, hd H p⟩
    omega
end Hc


set_option Elab.async false
set_option linter.all false
set_option maxRecDepth 100000
set_option maxHeartbeats 2000000
set_option autoImplicit false
namespace L2
open PySem PySem.Spec PyProof.Rows
/-- what the first clause, 'except x as n', wishes of an exception that is its own; slot i is n's -/
def wAs1 (K : PySem.W.Frag) (c : Value) (i : Nat) (ts : Addr → Value → Option Addr → TS) (D : Ends) : WX := fun cls d σ H =>
  PySem.W.exmOne K cls c = some true ∧ ∀ a, H a = none → ts a cls d { nx := fun σ' H' => D.nx (σ'.set i none) H', rt := D.rt, bk := fun σ' H' => D.bk (σ'.set i none) H', ct := fun σ' H' => D.ct (σ'.set i none) H' } (σ.set i (some (.ref a))) H
section
variable {X : Cx} {x n : Str} {c : Value} {i : Nat} {body suite : List Stmt} {b₀ : Stmt} {np pos pos' : Pos} {tb : WX → TS} {ts : Addr → Value → Option Addr → TS} {more : List ExceptHandler}
theorem ps_try_as1 (hs : X.stack = X.env :: X.outer) (hf : X.env.frame = some X.env.locals) (hN : X.N.Nodup) (hi : X.N[i]? = some n) (hln : X.env.kindOf n = some .local) (hc : Names X x c)
    (hb : ∀ (W : WX) (pn : List (Addr × Obj)) (xe : Value → Shared → Prop), Takes (X.tr pn xe) W → PassesOwn (model X.prog X.w) X.A X.env xe → PSs (X.tr pn xe) body (tb W))
    (hsu : ∀ (a : Addr) (oe : Obj) (cls : Value) (d : Option Addr) (pn : List (Addr × Obj)), Zc cls d oe → (∃ vs, oe.data = .fields vs) → PSs (X.suite a ((a, oe) :: pn)) (b₀ :: suite) (ts a cls d)) :
    PS X (.Try body (.ExceptHandler (some (.Name x np)) (some n) (b₀ :: suite) pos' :: more) [] [] pos) (fun D σ H => tb (wAs1 X.K c i ts D) D σ H) := by
  refine ⟨fun pins s σ H D I h => ?_⟩
  have ok := I.ok
  have hfr : X.A.frames = some (X.env :: X.outer) := by rw [ok.frames, hs]
  have hloc : Loc X.env.scope n := .inl hln
  refine wpAny_Try_except ?_
  refine wpAny_mono ((hb (wAs1 X.K c i ts D) (X.pn ++ pins) (fun e s₁ => wpAny (model X.prog X.w) X.A (noteFrame e X.env) (fun _ s₂ => wpAny (model X.prog X.w) X.A (setFlight e none) (fun _ s₃ =>
    wpAny (model X.prog X.w) X.A (handleBy e X.env (.ExceptHandler (some (.Name x np)) (some n) (b₀ :: suite) pos' :: more)) (SP X pins D) X.xe s₃) X.xe s₂) X.xe s₁) (fun u s' xx => ?_) PassesOwn.looking).run [] s σ H D (I.toTry _) h) (fun f s1 hsp => ?_) (fun e s1 he => he)
  · obtain ⟨a, B, sI, pins', σ', H', cls, d, rfl, J', nb, up, sky, na, os, ag, hb1, hyes⟩ := xx
    have J : Inv X pins σ' H' sI := J'.ofTry ok
    have sky' : Sky B (X.env :: X.outer) a (Zc cls d) X.env.locals s'.heap := by rw [← hs]; exact sky
    show wpAny (model X.prog X.w) X.A (noteFrame (.ref a) X.env) _ _ _
    refine Sky.land Zc.steady hfr hf sky' fun h3 fl3 up3 => ?_
    have J3 : Inv X pins σ' H' { s' with heap := h3 } := J.landed nb fl3.1 (up.trans up3) os ag
    obtain ⟨oe3, vs3, he3, hz3, hd3⟩ := fl3.there
    have nfr : a ∉ frs (X.env :: X.outer) := fun hm => by
      obtain ⟨_, o', e', hnf⟩ := fl3.2.2.1.mem hm
      rw [he3] at e'; cases e'
      exact hnf _ hd3
    have nL : a ≠ X.env.locals := fun z => nfr (List.mem_filterMap.mpr ⟨X.env, List.mem_cons_self, by rw [hf, z]⟩)
    have nF : a ∉ X.fs := fun hm => by
      obtain ⟨e, he, q⟩ := List.mem_filterMap.mp hm
      exact nfr (List.mem_filterMap.mpr ⟨e, List.mem_cons_of_mem _ he, q⟩)
    have S3 := J3.suite he3 hd3 na nL nF
    refine wpAny_handleBy_cons (codeAny_handlers_test ?_) (by intro q; cases q)
    have LT : PySem.W.Looks (model X.prog X.w) h3 (typeOf (.ref a)) cls := fun A Q E s k q => wpAny_typeOf_ref (k _ _ he3) (by rw [hz3.1]; exact q)
    have LM := PySem.W.exm_one (M := model X.prog X.w) (J3.kIn) LT hb1
    have test : ∀ {Q : Value → Shared → Prop} {E : Value → Shared → Prop}, Q c { s' with heap := h3 } → wpAny (model X.prog X.w) (X.A.mark (some (.ref a))) (eval (.Name x np) X.env) Q E { s' with heap := h3 } := fun {Q E} q => by
      obtain ⟨hg, hdbg, hm | ⟨hm, hv, hnn⟩⟩ := hc
      · exact ld_glob (X := X.suite a ((a, oe3) :: (X.pn ++ pins))) S3 hg hm q hdbg
      · exact ld_blt (X := X.suite a ((a, oe3) :: (X.pn ++ pins))) S3 hg hm hv q hnn hdbg
    refine test (LM.here ?_)
    refine codeAny_handlers_suite_as ?_
    refine HandSPX.lands_againZ fl3 fun h4 fl4 up4 => ?_
    have J4 : Inv X pins σ' H' { s' with heap := h4 } := J.landed nb fl4.1 ((up.trans up3).trans up4) os ag
    obtain ⟨oe4, vs4, he4, hz4, hd4⟩ := fl4.there
    have S4 := J4.suite he4 hd4 na nL nF
    refine store_ok (X := X.suite a ((a, oe4) :: (X.pn ++ pins))) (v := .ref a) S4 hN hi hloc rfl (fun s5 S5 => ?_) (.inr hln)
    refine wpAny_mono ((hsu a oe4 cls d (X.pn ++ pins) hz4 ⟨_, hd4⟩).run [] s5 _ H' _ S5 (hyes a na)) (fun f s6 hsp => ?_) (fun _ _ z => False.elim z)
    have end_ : ∀ {σ6 : St} {H6 : Hp} {Q : Shared → Prop}, Inv (X.suite a ((a, oe4) :: (X.pn ++ pins))) [] σ6 H6 s6 → (∀ s7, Inv X pins (σ6.set i none) H6 s7 → Q s7) →
        wpAny (model X.prog X.w) X.A (do bindName X.env n .none; unbindBehindTheSuite X.env n pos') (fun _ s7 => Q s7) X.xe s6 := fun {σ6 H6 Q} S6 hq => gone_ok (S6.unsuite ok) hN hi hln hq
    cases f with
    | next =>
      obtain ⟨σ6, H6, S6, q6⟩ := hsp
      exact end_ S6 fun s7 J7 => ⟨_, _, J7, q6⟩
    | brk =>
      obtain ⟨σ6, H6, S6, q6⟩ := hsp
      exact end_ S6 fun s7 J7 => ⟨_, _, J7, q6⟩
    | cont =>
      obtain ⟨σ6, H6, S6, q6⟩ := hsp
      exact end_ S6 fun s7 J7 => ⟨_, _, J7, q6⟩
    | ret u =>
      obtain ⟨v6, σ6, H6, S6, r6, q6⟩ := hsp
      exact end_ S6 fun s7 J7 => ⟨_, _, _, J7, r6, q6⟩
  · cases f with
    | next =>
      obtain ⟨σ', H', J', q⟩ := hsp
      exact wpAny_execs_nil ⟨σ', H', J'.ofTry ok, q⟩
    | brk =>
      obtain ⟨σ', H', J', q⟩ := hsp
      exact ⟨σ', H', J'.ofTry ok, q⟩
    | cont =>
      obtain ⟨σ', H', J', q⟩ := hsp
      exact ⟨σ', H', J'.ofTry ok, q⟩
    | ret u =>
      obtain ⟨v, σ', H', J', r, q⟩ := hsp
      exact ⟨v, σ', H', J'.ofTry ok, r, q⟩
end
end L2


set_option Elab.async false
set_option linter.all false
set_option maxRecDepth 100000
set_option maxHeartbeats 1000000
set_option autoImplicit false
namespace PyProof.Rows
open PySem PySem.Spec
section
variable {prog : Program} {w : World} {A : Around} {E : Value → Shared → Prop} {s : Shared}
theorem collect_tupleH {l : Addr} {vs : List Value} {Q : List Value → Shared → Prop} (hl : s.heap.IsTuple l vs.toArray)
    (h : Q vs { s with heap := (s.heap.push (seqObj "list" #[] 0)).update s.heap.objs.size (Obj.mapSeq (· ++ vs.toArray)) }) (hsz : vs.length ≤ sizeLine) :
    wpAny (model prog w) A (collect (.ref l)) Q E s := by
  obtain ⟨o, ho, hc, n, hd⟩ := id hl
  unfold collect
  refine wpAny_bind (wpAny_runValue (codeAny_builtin entry_proto_collect' ?_))
  show wpAny _ _ (do again (.builtin "list.__iadd__" ⟨[← newList [], .ref l], []⟩)) _ _ s
  refine wpAny_bind (wpAny_newList (wpAny_pure ⟨Code.quiet_builtin _ (by decide +kernel), codeAny_builtin entry_list_iadd' ?_⟩))
  show wpAny _ _ (Builtin.List.listExtendWith (.ref s.heap.objs.size) (.ref l) (.ref s.heap.objs.size)) _ _ { s with heap := s.heap.push (seqObj "list" #[] 0) }
  unfold Builtin.List.listExtendWith
  have ho' : (s.heap.push (seqObj "list" #[] 0)).get? l = some o := Heap.get?_push_of_some _ ho
  refine wpAny_bind (wpAny_typeOf (T := "tuple") ⟨o, ho', hc⟩ ?_)
  have ht : (Value.type "tuple" == Value.type "tuple") = true := by rfl
  rw [if_pos (by rw [ht]; simp)]
  refine wpAny_bind (listItems_at ho' hd ?_)
  refine wpAny_bind (listItems_at (xs := #[]) (n := 0) (Heap.get?_push_size _ rfl) rfl ?_)
  rw [if_neg (by simp)]
  refine wpAny_bind (listUpdate_at (xs := #[]) (n := 0) (Heap.get?_push_size _ rfl) rfl ?_ (Nat.zero_le _) (by show (#[] ++ vs.toArray).size ≤ sizeLine + 1; simp only [Array.size_append, List.size_toArray, List.length_nil]; omega))
  refine wpAny_pure ?_
  show wpAny (model prog w) A (do
      let o ← load s.heap.objs.size
      match o.data with
      | .seq xs _ => pure xs.toList
      | _ => unsupported "internal:collect") Q E { s with heap := (s.heap.push (seqObj "list" #[] 0)).update s.heap.objs.size (Obj.mapSeq (· ++ vs.toArray)) }
  refine wpAny_bind (wpAny_load (get?_update_seq (Heap.get?_push_size _ rfl) _) ?_)
  show wpAny _ _ (pure ((#[] : Array Value) ++ vs.toArray).toList) Q E _
  rw [show ((#[] : Array Value) ++ vs.toArray).toList = vs by simp]
  exact wpAny_pure h
theorem sorted_intsT {l : Addr} {vs : List Value} {ns : List Int} {Q : Value → Shared → Prop} (hl : s.heap.IsTuple l vs.toArray) (hI : IntsAre vs ns) (h64 : vs.length < 64)
    (h : ∀ (out : Array Value) (ns' : List Int), IntsAre out.toList ns' → ns'.Perm ns → ns'.Pairwise (· ≤ ·) → Q (.ref (s.heap.objs.size + 1)) { s with heap := sortedAll s.heap vs out }) :
    wpAny (model prog w) A (call (.builtin "sorted") [.ref l]) Q E s := by
  refine Calls.call_function_entry kind_sorted plain_sorted entry_sorted (args_sorted1 _) ?_
  unfold Builtin.«sorted»
  refine wpAny_bind (m := checkCount "sorted" 1 1 _) (wpAny_pure ?_)
  refine wpAny_bind (collect_tupleH hl ?_ (by rw [sizeLine_eq]; omega))
  refine wpAny_bind (wpAny_newList ?_ (by rw [sizeLine_eq]; omega))
  have hsz : ((s.heap.push (seqObj "list" #[] 0)).update s.heap.objs.size (Obj.mapSeq (· ++ vs.toArray))).objs.size = s.heap.objs.size + 1 := by
    rw [Heap.size_update, size_push']
  have hoL : (((s.heap.push (seqObj "list" #[] 0)).update s.heap.objs.size (Obj.mapSeq (· ++ vs.toArray))).push (seqObj "list" vs.toArray 0)).get? (s.heap.objs.size + 1) = some (seqObj "list" vs.toArray 0) := by
    rw [← hsz]; exact Heap.get?_push_size _ rfl
  show wpAny _ _ _ _ _ { s with heap := ((s.heap.push (seqObj "list" #[] 0)).update s.heap.objs.size (Obj.mapSeq (· ++ vs.toArray))).push (seqObj "list" vs.toArray 0) }
  rw [hsz]
  refine wpAny_bind (wpAny_holding (wpAny_call_entry slot_list_sort ⟨_, hoL, rfl⟩ entry_list_sort (list_sort_tree hoL hI h64 fun out ns' a1 a2 a3 => ⟨_, rfl, ?_⟩) (args_list_sort _)))
  exact wpAny_pure ⟨_, rfl, h out ns' a1 a2 a3⟩
end
end PyProof.Rows
namespace L2
open PySem PySem.Spec PyProof.Rows
def rSortT (K : PySem.W.Frag) : List V → Hp → VK → Prop := fun vs H Q => ∃ (a : Addr) (ns : List Int), vs = [V.ref a] ∧ SqT K H a (ns.map V.int) ∧ ns.length < 64 ∧
  ∀ (ns' : List Int) (p : Addr), ns'.Perm ns → ns'.Pairwise (· ≤ ·) → H p = none → Q (.ref p) (upd H p (.lst (ns'.map V.int)))
theorem cr_sortT1 {X : Cx} : CallR X (.builtin "sorted") (rSortT X.K) := by
  intro pins s σ H vs us Q I r h
  obtain ⟨a, ns, rfl, hs, h64, q⟩ := h
  obtain ⟨its, rv, hl, _⟩ := I.tuple hs
  rw [Vals.ref1 r]
  have hi := rv.ints
  refine PyProof.Rows.sorted_intsT (show s.heap.IsTuple a its.toArray from hl) hi (by rw [hi.length]; exact h64) fun out ns' h1 h2 h3 => ?_
  obtain ⟨ep, he'⟩ := PyProof.Rows.sortedAll_at s.heap its out
  have hlen : (ns'.map V.int).length ≤ sizeLine := by rw [List.length_map, h2.length_eq]; exact small64 h64
  exact ⟨.ref _, upd H (s.heap.objs.size + 1) (.lst (ns'.map V.int)), I.laid (t' := s.toks) (fun _ _ => PyProof.Rows.sortedAll_old) (Nat.le_succ _) ⟨hlen, out.toList, ep, vals_of_ints h1, he'⟩, rfl, q ns' _ h2 h3 (I.hok.fresh (Nat.le_succ _))⟩
end L2


set_option Elab.async false
set_option linter.all false
set_option maxRecDepth 100000
set_option maxHeartbeats 1000000
set_option autoImplicit false
namespace L2
open PySem PySem.Spec PyProof.Rows
section
variable {X : Cx} {pins : List (Addr × Obj)} {σ : St} {H : Hp} {s : Shared} {d : Addr} {o : Obj}
theorem Inv.frzT2 {kvs : List (List Key × V)} (I : Inv X pins σ H s) (h : H d = some (.frz o (.dT kvs))) :
    (d == sysModules) = false ∧ s.heap.get? d = some o ∧ o.ExactDict ∧ ∃ (es : Array DictEntry) (ep : Nat), o.data = .dict es ep ∧ es.size = kvs.length ∧
      ∀ (i : Nat) (k : List Key) (v : V), kvs[i]? = some (k, v) → ∃ (en : DictEntry) (q : Addr), es[i]? = some en ∧ en.key = .ref q ∧ H q = some (.tup (k.map kV)) ∧ RelV v en.val := by
  obtain ⟨hd, z, hs, xs, pr, o', es, ep, ho, hx, hdt, he, _⟩ := I.hok d _ h
  rw [hd] at ho
  cases ho
  refine ⟨hs, hd, hx, es, ep, hdt, ?_, fun i k v e => ?_⟩
  · have l1 : es.size = xs.length := size_of_entries he
    have l2 : kvs.length = xs.length := Paired.length pr
    omega
  · obtain ⟨b, hb, e1, e2, e3⟩ := paired_get pr e
    have q := entry_at he i
    rw [hb] at q
    exact ⟨_, b.2.1, q, rfl, e2, e3⟩
end
/-- the pairs of a dict with tuple keys, each a new tuple of the key's own tuple and the value -/
def Itit (d : Addr) (o : Obj) (kvs : List (List Key × V)) : It :=
  ⟨fun i H => H d = some (.frz o (.dT kvs)) ∧ i < kvs.length, fun i H x H' => ∃ (T : Addr) (k : List Key) (v : V) (q : Addr), kvs[i]? = some (k, v) ∧ x = .ref T ∧ H T = none ∧ H q = some (.tup (k.map kV)) ∧ H' = upd H T (.tup [.ref q, v]), fun i H => H d = some (.frz o (.dT kvs)) ∧ kvs.length ≤ i⟩
section
variable {P : Program} {w : World} {K : PySem.W.Frag} {tg : Expr} {d : Addr} {o : Obj} {es : Array DictEntry} {ep : Nat}
theorem turn_itemsT {kvs : List (List Key × V)} {elts : List Expr} {kk : Nat} {tpos : Pos} (it : Addr) (hod : o.data = .dict es ep) :
    Turn P w K (.Tuple elts kk tpos) (Itit d o kvs) [it] it (fun i h => ∃ ok ov, IsItemIter h it d i kvs.length ep ok ov) where
  mem := by simp
  obj := fun i h st b hb => by
    have e : b = it := by simpa using hb
    subst e
    obtain ⟨ok, ov, e⟩ := st
    exact ⟨_, e, fun v z => nomatch z⟩
  keep := fun i h h' st k => let ⟨ok, ov, e⟩ := st; ⟨ok, ov, k it (by simp) _ e⟩
  item := by
    intro X hP hw hK hc i pins s σ H E I hf st hg
    subst hP hw hK
    obtain ⟨hd, hi⟩ := hg
    obtain ⟨hs, hgd, hx, es', ep', hdt, hsz, ent⟩ := I.frzT2 hd
    obtain ⟨rfl, rfl⟩ := dict_ep hod hdt
    obtain ⟨⟨k, v⟩, hkv⟩ : ∃ p, kvs[i]? = some p := ⟨kvs[i], List.getElem?_eq_getElem hi⟩
    obtain ⟨en, q, hen, hkey, hq, ru⟩ := ent i k v hkv
    obtain ⟨ok, ov, he⟩ := st
    have he0 := he
    rw [← hsz] at he
    have hlt : it < s.heap.objs.size := Heap.lt_size he
    have hm : s.heap.DictRaw d es' ep' := ⟨o, hgd, hx, hdt⟩
    have hlt' : i < es'.size := by omega
    have e1 : es'[i] = en := by
      rw [Array.getElem?_eq_getElem hlt'] at hen
      exact Option.some.inj hen
    refine wpAny_pyNext_items_item_raw he hm hlt' fun h' ho hT hz hk => ?_
    rw [e1] at ho hT
    refine ⟨_, rfl, wpAny_letOwnedTupleGo_items (s := { s with heap := h' }) ho fun h'' he' sb => ?_⟩
    have hT2 : h''.get? s.heap.objs.size = some { cls := .type "tuple", data := .seq #[en.key, en.val] } := (sb.2 _ (Nat.ne_of_gt hlt)).trans hT
    have rk : RelV (.ref q) en.key := by rw [hkey]; exact rfl
    have new : ObjOk X.prog X.w (upd H s.heap.objs.size (.tup [.ref q, v])) h'' s.heap.objs.size (.tup [.ref q, v]) :=
      ⟨by show 2 ≤ sizeLine; decide, [en.key, en.val], .cons rk (.cons ru .nil), ⟨_, hT2, rfl, _, rfl⟩⟩
    have I1 : Inv X pins σ (upd H s.heap.objs.size (.tup [.ref q, v])) { s with heap := h'' } :=
      I.turnedNew (t' := s.toks) (ch := [it]) (fun b ob hb e => (sb.2 b (by simpa using hb)).trans (hk b ob (by simpa using hb) e)) hf (Nat.le_refl _) new
    refine ⟨.ref s.heap.objs.size, _, I1, rfl, ⟨_, k, v, q, hkv, rfl, I.hok.fresh (Nat.le_refl _), hq, rfl⟩, ⟨en.key, en.val, ?_⟩, fun b hb => ?_⟩
    · rw [← hsz]; exact he'
    · have e : b = it := by simpa using hb
      rw [e, upd_ne (Nat.ne_of_lt hlt)]
      exact (hf it (by simp)).1
  done := by
    intro X hP hw hK hc i pins s σ H E I hf st hg
    subst hP hw hK
    obtain ⟨hd, hi⟩ := hg
    obtain ⟨f0, f1, f2, f3, f4, f5⟩ := hf it (by simp)
    obtain ⟨hs, hgd, hx, es', ep', hdt, hsz, ent⟩ := I.frzT2 hd
    obtain ⟨rfl, rfl⟩ := dict_ep hod hdt
    obtain ⟨ok, ov, he⟩ := st
    rw [← hsz] at he
    exact wpAny_pyNext_items_end_raw (I.ok.hd hc) he ⟨o, hgd, hx, hdt⟩ (by omega) fun h' eb => ⟨rfl, I.turned (t' := s.toks) (fun b ob hb e => eb b ob hb e) f0 f1 f3 f4 f5⟩
  self := fun A i s Q E st h => let ⟨_, _, e⟩ := st; PySem.W.kcp_self e h
end
def iItemsT (td : TE) : TI := fun σ H R => td σ H fun x H1 => ∃ d o kvs, x = .ref d ∧ H1 d = some (.frz o (.dT kvs)) ∧ R (Itit d o kvs) H1
section
variable {X : Cx} {tg e : Expr} {td : TE} {apos cpos : Pos}
theorem pi_itemsT {elts : List Expr} {kk : Nat} {tpos : Pos} (he : PE X e td) (hbase : attributeBase e "items" X.env (eval e X.env) = eval e X.env := by rfl) (hline : (apos.endLine == cpos.line) = true := by rfl) :
    PI X (.Tuple elts kk tpos) (.Call (.Attribute e "items" apos) [] [] cpos) (iItemsT td) := by
  refine ⟨fun pins s σ H R I h => ?_⟩
  refine wpAny_Call_method (T := "dict") (id := "dict.items") hbase rfl hline F.plainAttrs_dict F.slot_dict_items F.type_dict_items (thn (he.run pins s σ H _ I h) fun u s1 ⟨x, H1, I1, rx, d, o, kvs, ex, hd, q⟩ => ?_)
  subst ex
  obtain rfl : u = Value.ref d := rx
  obtain ⟨hs, hgd, hx, es, ep, hdt, hsz, ent⟩ := I1.frzT2 hd
  have hm : s1.heap.DictRaw d es ep := ⟨o, hgd, hx, hdt⟩
  obtain ⟨z, _, xs, _, dd⟩ := dt_rd I1.hok (.inr ⟨o, hd⟩)
  refine ⟨hm.typeIs, fun b e => by cases e; exact ⟨o, hgd, hx.2.1⟩, ?_⟩
  have I2 : Inv X pins σ H1 { s1 with heap := s1.heap.push { cls := .type "dict_items", data := .fields #[.ref d] } } := I1.kept (t' := s1.toks) fun b ob q => Heap.get?_push_of_some _ q
  have fin : wpAny (model X.prog X.w) X.A (pyIter (.ref s1.heap.objs.size)) (PIE X pins σ (.Tuple elts kk tpos) R) X.xe { s1 with heap := s1.heap.push { cls := .type "dict_items", data := .fields #[.ref d] } } := by
    refine wpAny_pyIter_items_raw (d := d) (es := es) (ep := ep) ⟨_, Heap.get?_push_size _ rfl, rfl, rfl⟩ (hm.at fun o e => Heap.get?_push_of_some _ e) (pi_one (tk := s1.toks) I2 _ (turn_itemsT _ hdt) ⟨.none, .none, ?_⟩ q)
    rw [← hsz]
    exact Heap.get?_push_size _ rfl
  show wpAny _ _ (callWith cpos (.builtin "dict.items") [.ref d] [] []) _ X.xe s1
  exact method_meetsIn F.slot_dict_items F.entry_dict_items rfl (PySem.evalArgs_none ⟨rfl, hm.typeIs, F.args_dict_items_1 _, _, meets_dict_items_raw d hs, ⟨es, ep, hm⟩, fin⟩)
end
end L2


set_option Elab.async false
set_option linter.all false
set_option maxRecDepth 100000
set_option maxHeartbeats 1000000
set_option autoImplicit false
namespace L2
open PySem PySem.Spec PyProof.Rows
/-- zip of the tuple at a and the list at b, both as they stand at each turn -/
def ItzM (K : PySem.W.Frag) (a b : Addr) : It where
  go i H := ∃ (xs ys : List V) (x y : V), SqT K H a xs ∧ SqL K H b ys ∧ xs[i]? = some x ∧ ys[i]? = some y
  yld i H v H' := ∃ T x y, v = .ref T ∧ H T = none ∧ H' = upd H T (.tup [x, y]) ∧ (∀ xs, SqT K H a xs → xs[i]? = some x) ∧ ∀ ys, SqL K H b ys → ys[i]? = some y
  stop i H := ∃ xs ys : List V, SqT K H a xs ∧ SqL K H b ys ∧ i ≤ xs.length ∧ i ≤ ys.length ∧ (i = xs.length ∨ i = ys.length)
/-- where the mixed zip stands -/
structure ZmAt (z TI TO i1 i2 a b : Addr) (i : Nat) (h : Heap) : Prop where
  zip : IsZip h z TI TO .none
  ins : IsTupOf2 h TI (.ref i1) (.ref i2)
  out : ∃ x y, IsTupOf2 h TO x y
  it1 : h.IsTupleIter i1 a i
  it2 : h.IsListIter i2 b i
theorem sep_of {z TI TO i1 i2 a b : Addr} (D : ZipApart z TI TO i1 i2 a b) : ZipSep2 z TI TO i1 i2 [i1, a] [i2, b] where
  TIz := D.TIz
  TOz := D.TOz
  TITO := D.TITO
  TIi1 := D.TIi1
  mem1 := by simp
  zf1 := by simp [D.i1z.symm, D.l1z.symm]
  Tf1 := by simp [D.TOi1, D.l1TO.symm]
  TIi2 := D.TIi2
  mem2 := by simp
  zf2 := by simp [D.i2z.symm, D.l2z.symm]
  Tf2 := by simp [D.TOi2, D.l2TO.symm]
  sep1_2 := by simp [D.i12, D.l2i1.symm]
  sep2_1 := by simp [D.i12.symm, D.l1i2.symm]
theorem cells5 {z TI TO i1 i2 a b : Addr} {i : Nat} {h : Heap} (st : ZmAt z TI TO i1 i2 a b i h) {c : Addr} (hc : c ∈ [z, TI, TO, i1, i2]) : ∃ o, h.get? c = some o ∧ ∀ v, o.data ≠ .cell v := by
  obtain ⟨hz, hI, ⟨x, y, hO⟩, ⟨o1, e1, _, d1⟩, ⟨o2, e2, _, d2⟩⟩ := st
  simp only [List.mem_cons, List.not_mem_nil, or_false] at hc
  rcases hc with rfl | rfl | rfl | rfl | rfl
  · exact ⟨_, hz, fun v => nofun⟩
  · exact ⟨_, hI, fun v => nofun⟩
  · exact ⟨_, hO, fun v => nofun⟩
  · exact ⟨o1, e1, fun v q => by rw [d1] at q; cases q⟩
  · exact ⟨o2, e2, fun v q => by rw [d2] at q; cases q⟩
theorem ZmAt.keeps {z TI TO i1 i2 a b : Addr} {i : Nat} {h h' : Heap} (st : ZmAt z TI TO i1 i2 a b i h) (k : ∀ c ∈ [z, TI, TO, i1, i2], ∀ o, h.get? c = some o → h'.get? c = some o) : ZmAt z TI TO i1 i2 a b i h' where
  zip := k z (by simp) _ st.zip
  ins := k TI (by simp) _ st.ins
  out := let ⟨x, y, e⟩ := st.out; ⟨x, y, k TO (by simp) _ e⟩
  it1 := st.it1.at fun o e => k i1 (by simp) o e
  it2 := st.it2.at fun o e => k i2 (by simp) o e
theorem turn_zipM {P : Program} {w : World} {K : PySem.W.Frag} {elts : List Expr} {kk : Nat} {tpos : Pos} {a b z TI TO i1 i2 : Addr} (D : ZipApart z TI TO i1 i2 a b) :
    Turn P w K (.Tuple elts kk tpos) (ItzM K a b) [z, TI, TO, i1, i2] z (ZmAt z TI TO i1 i2 a b) where
  mem := List.mem_cons_self
  obj i h st c hc := cells5 st hc
  keep i h h' st k := st.keeps k
  item := by
    intro X hP hw hK hc i pins s σ H E I hf st hg
    subst hP hw hK
    obtain ⟨xs, ys, x, y, qx, qy, hx, hy⟩ := hg
    obtain ⟨us, ru, pu, _⟩ := I.tuple qx
    obtain ⟨ws, rw', pw, _⟩ := I.list qy
    have hh : X.A.in1.handled = none := I.ok.hd hc
    have nx : i < us.toArray.size := by
      have := ru.length
      have := (List.getElem?_eq_some_iff.mp hx).1
      simp only [List.size_toArray]; omega
    have ny : i < ws.toArray.size := by
      have := rw'.length
      have := (List.getElem?_eq_some_iff.mp hy).1
      simp only [List.size_toArray]; omega
    obtain ⟨a1, a2, hO⟩ := st.out
    have lc : ∀ {c : Addr}, c ∈ [z, TI, TO, i1, i2] → c < s.heap.objs.size := fun hm => let ⟨_, e, _⟩ := cells5 st hm; Heap.lt_size e
    refine wpAny_pyNext_zipD2_item (sep_of D) (Draws.tuple hh i1 a D.l1i1 us.toArray) (Draws.list hh i2 b D.l2i2 ws.toArray) st.zip st.ins hO ⟨st.it1, pu⟩ ⟨st.it2, pw.isList⟩ nx ny fun x1 x2 h' tk y1 y2 z' O' s1 s2 hT hsz hk => ?_
    obtain ⟨u1, eu1, r1⟩ := ru.get hx
    obtain ⟨u2, eu2, r2⟩ := rw'.get hy
    have e1 : x1 = u1 := Option.some.inj (y1.symm.trans (by simpa using eu1))
    have e2 : x2 = u2 := Option.some.inj (y2.symm.trans (by simpa using eu2))
    subst e1 e2
    refine ⟨_, rfl, wpAny_letOwnedTupleGo_zip (s := { s with heap := h', toks := tk }) z' fun g gz sb => ?_⟩
    have gT : g.get? s.heap.objs.size = some { cls := .type "tuple", data := .seq #[x1, x2] } := (sb.2 _ (Nat.ne_of_gt (lc (by simp)))).trans hT
    have I1 : Inv X pins σ (upd H s.heap.objs.size (.tup [x, y])) { s with heap := g, toks := tk } :=
      I.turnedNew (ch := [z, TI, TO, i1, i2]) (fun c o nc e => by
        simp only [List.mem_cons, List.not_mem_nil, or_false, not_or] at nc
        exact (sb.2 c nc.1).trans (hk c o nc.1 nc.2.2.1 nc.2.2.2.1 nc.2.2.2.2 e)) hf (Nat.le_refl _) ⟨by show 2 ≤ sizeLine; decide, [x1, x2], .cons r1 (.cons r2 .nil), ⟨_, gT, rfl, _, rfl⟩⟩
    refine ⟨.ref s.heap.objs.size, _, I1, rfl, ⟨_, x, y, rfl, I.hok.fresh (Nat.le_refl _), rfl, fun l hl => ?_, fun l hl => ?_⟩, ⟨gz, ?_, ⟨x1, x2, ?_⟩, ?_, ?_⟩, fun c hm => ?_⟩
    · rw [I.tuple_inj hl qx]; exact hx
    · rw [I.list_inj hl qy]; exact hy
    · exact (sb.2 _ D.TIz).trans (hk _ _ D.TIz D.TITO D.TIi1 D.TIi2 st.ins)
    · exact (sb.2 _ D.TOz).trans O'
    · exact s1.1.at fun o q => (sb.2 _ D.i1z).trans q
    · exact s2.1.at fun o q => (sb.2 _ D.i2z).trans q
    · rw [upd_ne (Nat.ne_of_lt (lc hm))]
      exact (hf c hm).1
  done := by
    intro X hP hw hK hc i pins s σ H E I hf st hg
    subst hP hw hK
    obtain ⟨xs, ys, qx, qy, h1, h2, h3⟩ := hg
    obtain ⟨us, ru, pu, _⟩ := I.tuple qx
    obtain ⟨ws, rw', pw, _⟩ := I.list qy
    have hh : X.A.in1.handled = none := I.ok.hd hc
    obtain ⟨a1, a2, hO⟩ := st.out
    have l1 := ru.length
    have l2 := rw'.length
    exact wpAny_pyNext_zipD2_end (sep_of D) (Draws.tuple hh i1 a D.l1i1 us.toArray) (Draws.list hh i2 b D.l2i2 ws.toArray) st.zip st.ins hO ⟨st.it1, pu⟩ ⟨st.it2, pw.isList⟩
      (by simp only [List.size_toArray]; omega) (by simp only [List.size_toArray]; omega) (by simp only [List.size_toArray]; omega) fun h' tk hk => ⟨rfl, I.turnedL (ch := [z, TI, TO, i1, i2]) (fun c o nc e => by
        simp only [List.mem_cons, List.not_mem_nil, or_false, not_or] at nc
        exact hk c o nc.1 nc.2.2.1 nc.2.2.2.1 nc.2.2.2.2 e) hf⟩
  self A i s Q E st h := wpAny_pyIter_zip st.zip h
def iZipM (K : PySem.W.Frag) (ta : TA) : TI := fun σ H R => ta σ H fun vs H1 => ∃ a b xs ys, vs = [.ref a, .ref b] ∧ SqT K H1 a xs ∧ SqL K H1 b ys ∧ R (ItzM K a b) H1
theorem pi_zipM {X : Cx} {e e2 : Expr} {ta : TA} {p pos tpos : Pos} {elts : List Expr} {kk : Nat} (hg : Gl X "zip") (hm : X.mg "zip" = none) (ha : PA X [e, e2] ta)
    (hs : starEach [e, e2] X.env = (false, eval e X.env) :: starEach [e2] X.env := by rfl) (hpl : (backTo pos (starEach [e2] X.env)).any (·.1) = false := by rfl) :
    PI X (.Tuple elts kk tpos) (.Call (.Name "zip" p) [e, e2] [] pos) (iZipM X.K ta) where
  run pins s σ H R I h := by
    refine Call_ (ld_blt I hg hm PyProof.Rows.boot_zip (PyProof.Rows.callWith_type1 (thn (ha.run pos pins s σ H _ I h) fun us s1 ⟨vs, H1, I1, r1, a, b, xs, ys, ev, qx, qy, q⟩ => ?_) hs hpl))
    subst ev
    cases r1 with
    | cons ra rr =>
    cases rr with
    | cons rb rr =>
    cases rr
    cases ra
    cases rb
    obtain ⟨us, _, pu, _⟩ := I1.tuple qx
    obtain ⟨ws, _, pw, _⟩ := I1.list qy
    have la : a < s1.heap.objs.size := let ⟨o, e, _⟩ := pu; Heap.lt_size e
    refine zip_begins2 (begins_tuple a us.toArray) (begins_list b ws.toArray) pu pw.isList fun h' hz hI hO h1 h2 hsz hk => wpAny_pyIter_zip hz ?_
    refine ⟨s1.heap.objs.size + 4, [s1.heap.objs.size + 4, s1.heap.objs.size + 2, s1.heap.objs.size + 3, s1.heap.objs.size, s1.heap.objs.size + 1], _, _, H1, rfl, I1.kept (t' := s1.toks) hk, turn_zipM (PySem.W.ktu_apart s1.heap.objs.size a b la pw.lt), ⟨hz, hI, ⟨_, _, hO⟩, ⟨_, h1, rfl, rfl⟩, ⟨_, h2, rfl, rfl⟩⟩, fun c hc => ?_, q⟩
    have hle : s1.heap.objs.size ≤ c := by
      simp only [List.mem_cons, List.not_mem_nil, or_false] at hc
      rcases hc with rfl | rfl | rfl | rfl | rfl <;> omega
    exact I1.fpOk hle (I1.hok.fresh hle)
end L2


set_option Elab.async false
set_option linter.all false
set_option maxRecDepth 100000
set_option maxHeartbeats 4000000
set_option autoImplicit false
namespace Hc
open PySem L2
def top (i : Nat) : Stmt := PySem.Challenge.pw_hourcards_k16_whole_turns_follow_hours.main.body.getD i (.Pass ⟨0, 0, 0, 0⟩)
structure Df (K : PySem.W.Frag) (mg : Str → Option Value) (x : Str) (st : Stmt) (ps : List Str) : Type where
  f : Addr
  fd : FuncData
  F : Fun K x x st f fd
  g : mg x = some (.ref f)
  b : Binds K fd ps []
/-- an own class -/
structure Wf (K : PySem.W.Frag) (mg : Str → Option Value) (x q : Str) (st : Stmt) (ps fs : List Str) : Type where
  C : Addr
  f : Addr
  fd : FuncData
  F : Fun K "__init__" q st f fd
  g : mg x = some (.ref C)
  b : Binds K fd ps []
  mk1 : Mk K C f
  cl : Cls K C
  no : ∀ x ∈ fs, PySem.W.findIn K (.ref C) x = some none
/-- an own error -/
structure Xf (K : PySem.W.Frag) (mg : Str → Option Value) (x q : Str) (st : Stmt) (ps fs : List Str) : Type where
  C : Addr
  f : Addr
  fd : FuncData
  F : Fun K "__init__" q st f fd
  g : mg x = some (.ref C)
  b : Binds K fd ps []
  T : OexC K C
  iC : PySem.W.findIn K (.ref C) "__init__" = some (some (.ref f))
  tI : PySem.W.typeIn K (.ref f) = some (.type "function")
  xf : XfC K C
  te : PySem.W.exmOne K (.ref C) (.ref C) = some true
  no : ∀ x ∈ fs, PySem.W.findIn K (.ref C) x = some none
/-- an own class's ==, and what else is asked of it -/
structure Ef (K : PySem.W.Frag) (C : Addr) (q : Str) (st : Stmt) (ps : List Str) : Type where
  f : Addr
  fd : FuncData
  F : Fun K "__eq__" q st f fd
  b : Binds K fd ps []
  i : PySem.W.findIn K (.ref C) "__eq__" = some (some (.ref f))
  t : PySem.W.isFn K (.ref f) = true
  k : PySem.W.kitOne K (.ref C) (.ref C) = some true
  ha : PySem.W.findIn K (.ref C) "__class__" = some (some (.builtin "object.__class__"))
  hn : PySem.W.specialIn K (.builtin "object.__class__") "__get__" = some (some (.builtin "getset_descriptor.__get__"))
  ht : PySem.W.takesIn K (.builtin "object.__class__") = some true
  hm : PySem.W.mroIn K C (.type "object") = some true
  ne : PySem.W.findIn K (.ref C) "__ne__" = some (some (.builtin "object.__ne__"))
  sb : PySem.W.subIn K (.ref C) (.type "object") = some true
  tN : PySem.W.subIn K (.type "NoneType") (.ref C) = some false ∧ PySem.W.kitOne K (.type "NoneType") (.ref C) = some false
  tI : PySem.W.subIn K (.type "int") (.ref C) = some false ∧ PySem.W.kitOne K (.type "int") (.ref C) = some false
  tB : PySem.W.subIn K (.type "bool") (.ref C) = some false ∧ PySem.W.kitOne K (.type "bool") (.ref C) = some false
  tS : PySem.W.subIn K (.type "str") (.ref C) = some false ∧ PySem.W.kitOne K (.type "str") (.ref C) = some false
  tT : PySem.W.subIn K (.type "tuple") (.ref C) = some false ∧ PySem.W.kitOne K (.type "tuple") (.ref C) = some false
  tL : PySem.W.subIn K (.type "list") (.ref C) = some false ∧ PySem.W.kitOne K (.type "list") (.ref C) = some false
  tD : PySem.W.subIn K (.type "dict") (.ref C) = some false ∧ PySem.W.kitOne K (.type "dict") (.ref C) = some false
/-- what isinstance asks of the error class at D, and of its base -/
structure HeF (K : PySem.W.Frag) (mg : Str → Option Value) (D : Addr) : Type where
  C : Addr
  g : mg "HourError" = some (.ref C)
  k1 : PySem.W.kitOne K (.ref D) (.ref C) = some true
  k2 : PySem.W.kitOne K (.ref D) (.type "ValueError") = some true
  ec : ExcC K D
abbrev s_is_integer : Stmt := (top 1)
theorem sc_is_integer : FnScope ["thing"] ["thing"] (defScope s_is_integer) := ⟨rfl, rfl, rfl, by decide +kernel, rfl, by decide +kernel, by decide +kernel⟩
abbrev s_is_from : Stmt := (top 2)
theorem sc_is_from : FnScope ["low", "thing"] ["low", "thing"] (defScope s_is_from) := ⟨rfl, rfl, rfl, by decide +kernel, rfl, by decide +kernel, by decide +kernel⟩
abbrev s_is_between : Stmt := (top 3)
theorem sc_is_between : FnScope ["low", "high", "thing"] ["low", "high", "thing"] (defScope s_is_between) := ⟨rfl, rfl, rfl, by decide +kernel, rfl, by decide +kernel, by decide +kernel⟩
abbrev s_is_tuple : Stmt := (top 4)
theorem sc_is_tuple : FnScope ["many", "thing"] ["many", "thing"] (defScope s_is_tuple) := ⟨rfl, rfl, rfl, by decide +kernel, rfl, by decide +kernel, by decide +kernel⟩
abbrev s_is_pair : Stmt := (top 5)
theorem sc_is_pair : FnScope ["thing"] ["thing"] (defScope s_is_pair) := ⟨rfl, rfl, rfl, by decide +kernel, rfl, by decide +kernel, by decide +kernel⟩
abbrev s_are_integers : Stmt := (top 6)
theorem sc_are_integers : FnScope ["many", "thing", "one"] ["many", "thing"] (defScope s_are_integers) := ⟨rfl, rfl, rfl, by decide +kernel, rfl, by decide +kernel, by decide +kernel⟩
abbrev s_are_between : Stmt := (top 7)
theorem sc_are_between : FnScope ["many", "low", "high", "thing", "one"] ["many", "low", "high", "thing"] (defScope s_are_between) := ⟨rfl, rfl, rfl, by decide +kernel, rfl, by decide +kernel, by decide +kernel⟩
abbrev s_are_roads : Stmt := (top 23)
theorem sc_are_roads : FnScope ["houses", "thing", "road"] ["houses", "thing"] (defScope s_are_roads) := ⟨rfl, rfl, rfl, by decide +kernel, rfl, by decide +kernel, by decide +kernel⟩
abbrev s_is_begin_and_end : Stmt := (top 24)
theorem sc_is_begin_and_end : FnScope ["houses", "thing"] ["houses", "thing"] (defScope s_is_begin_and_end) := ⟨rfl, rfl, rfl, by decide +kernel, rfl, by decide +kernel, by decide +kernel⟩
abbrev s_is_road : Stmt := (top 25)
theorem sc_is_road : FnScope ["web", "thing"] ["web", "thing"] (defScope s_is_road) := ⟨rfl, rfl, rfl, by decide +kernel, rfl, by decide +kernel, by decide +kernel⟩
abbrev s_is_way : Stmt := (top 26)
theorem sc_is_way : FnScope ["web", "thing", "road", "after"] ["web", "thing"] (defScope s_is_way) := ⟨rfl, rfl, rfl, by decide +kernel, rfl, by decide +kernel, by decide +kernel⟩
abbrev s_is_lot : Stmt := (top 27)
theorem sc_is_lot : FnScope ["web", "thing", "road", "after"] ["web", "thing"] (defScope s_is_lot) := ⟨rfl, rfl, rfl, by decide +kernel, rfl, by decide +kernel, by decide +kernel⟩
abbrev s_is_letter : Stmt := (top 32)
theorem sc_is_letter : FnScope ["web", "thing"] ["web", "thing"] (defScope s_is_letter) := ⟨rfl, rfl, rfl, by decide +kernel, rfl, by decide +kernel, by decide +kernel⟩
abbrev s_are_letters : Stmt := (top 33)
theorem sc_are_letters : FnScope ["web", "thing", "letter"] ["web", "thing"] (defScope s_are_letters) := ⟨rfl, rfl, rfl, by decide +kernel, rfl, by decide +kernel, by decide +kernel⟩
abbrev s_are_hours : Stmt := (top 34)
theorem sc_are_hours : FnScope ["letters", "thing", "row", "way", "_"] ["letters", "thing"] (defScope s_are_hours) := ⟨rfl, rfl, rfl, by decide +kernel, rfl, by decide +kernel, by decide +kernel⟩
abbrev s_first_ticks : Stmt := (top 35)
theorem sc_first_ticks : FnScope ["web", "letter", "row", "way", "come", "road", "hour"] ["web", "letter", "row"] (defScope s_first_ticks) := ⟨rfl, rfl, rfl, by decide +kernel, rfl, by decide +kernel, by decide +kernel⟩
abbrev s_some_early : Stmt := (top 36)
theorem sc_some_early : FnScope ["web", "letters", "hours", "letter", "row", "hour", "first"] ["web", "letters", "hours"] (defScope s_some_early) := ⟨rfl, rfl, rfl, by decide +kernel, rfl, by decide +kernel, by decide +kernel⟩
abbrev s_some_full : Stmt := (top 37)
theorem sc_some_full : FnScope ["web", "letters", "hours", "passed", "way", "_", "row", "road", "hour", "many"] ["web", "letters", "hours"] (defScope s_some_full) := ⟨rfl, rfl, rfl, by decide +kernel, rfl, by decide +kernel, by decide +kernel⟩
abbrev s_day_of_any_size : Stmt := (top 38)
theorem sc_day_of_any_size : FnScope ["web", "letters", "hours", "day"] ["web", "letters", "hours"] (defScope s_day_of_any_size) := ⟨rfl, rfl, rfl, by decide +kernel, rfl, by decide +kernel, by decide +kernel⟩
abbrev s_shifted : Stmt := (top 39)
theorem sc_shifted : FnScope ["day", "by", "letters", "hours", "_", "come", "way", "row", "hour"] ["day", "by"] (defScope s_shifted) := ⟨rfl, rfl, rfl, by decide +kernel, rfl, by decide +kernel, by decide +kernel⟩
abbrev s_laid_over : Stmt := (top 40)
theorem sc_laid_over : FnScope ["day", "other", "letters", "hours"] ["day", "other"] (defScope s_laid_over) := ⟨rfl, rfl, rfl, by decide +kernel, rfl, by decide +kernel, by decide +kernel⟩
abbrev s_is_sort : Stmt := (top 43)
theorem sc_is_sort : FnScope ["thing"] ["thing"] (defScope s_is_sort) := ⟨rfl, rfl, rfl, by decide +kernel, rfl, by decide +kernel, by decide +kernel⟩
abbrev s_check_lot_and_sort : Stmt := (top 44)
theorem sc_check_lot_and_sort : FnScope ["web", "lot", "sort"] ["web", "lot", "sort"] (defScope s_check_lot_and_sort) := ⟨rfl, rfl, rfl, by decide +kernel, rfl, by decide +kernel, by decide +kernel⟩
abbrev s_cards : Stmt := (top 45)
theorem sc_cards : FnScope ["day", "lot", "sort"] ["day", "lot", "sort"] (defScope s_cards) := ⟨rfl, rfl, rfl, by decide +kernel, rfl, by decide +kernel, by decide +kernel⟩
abbrev s_cards_of : Stmt := (top 46)
theorem sc_cards_of : FnScope ["day", "lot", "sort", "rows", "found", "way", "come", "hours", "row"] ["day", "lot", "sort"] (defScope s_cards_of) := ⟨rfl, rfl, rfl, by decide +kernel, rfl, by decide +kernel, by decide +kernel⟩
abbrev s_told_of : Stmt := (top 47)
theorem sc_told_of : FnScope ["lot", "way", "row", "road", "item"] ["lot", "way", "row"] (defScope s_told_of) := ⟨rfl, rfl, rfl, by decide +kernel, rfl, by decide +kernel, by decide +kernel⟩
abbrev s_turns_of : Stmt := (top 48)
theorem sc_turns_of : FnScope ["day", "passings", "letter", "way", "_", "row", "place", "road", "hour", "turns", "done"] ["day"] (defScope s_turns_of) := ⟨rfl, rfl, rfl, by decide +kernel, rfl, by decide +kernel, by decide +kernel⟩
abbrev s_are_cards : Stmt := (top 49)
theorem sc_are_cards : FnScope ["web", "lot", "sort", "thing", "card"] ["web", "lot", "sort", "thing"] (defScope s_are_cards) := ⟨rfl, rfl, rfl, by decide +kernel, rfl, by decide +kernel, by decide +kernel⟩
abbrev s_is_card : Stmt := (top 50)
theorem sc_is_card : FnScope ["web", "lot", "sort", "thing", "way", "come", "home", "told", "steps", "road", "turn"] ["web", "lot", "sort", "thing"] (defScope s_is_card) := ⟨rfl, rfl, rfl, by decide +kernel, rfl, by decide +kernel, by decide +kernel⟩
abbrev s_is_told : Stmt := (top 51)
theorem sc_is_told : FnScope ["lot", "way", "thing", "road", "item"] ["lot", "way", "thing"] (defScope s_is_told) := ⟨rfl, rfl, rfl, by decide +kernel, rfl, by decide +kernel, by decide +kernel⟩
abbrev s_is_alone : Stmt := (top 52)
theorem sc_is_alone : FnScope ["steps", "come", "told", "last", "first", "hour", "ahead"] ["steps", "come", "told", "last"] (defScope s_is_alone) := ⟨rfl, rfl, rfl, by decide +kernel, rfl, by decide +kernel, by decide +kernel⟩
abbrev s_law_hand : Stmt := (top 54)
theorem sc_law_hand : FnScope ["_law_script", "_law_cells", "_law_cell"] ["_law_script"] (defScope s_law_hand) := ⟨rfl, rfl, rfl, by decide +kernel, rfl, by decide +kernel, by decide +kernel⟩
abbrev s_law_draw : Stmt := (top 55)
theorem sc_law_draw : FnScope ["_law_hand_here", "_law_many", "_law_cell", "_law_digit", "_law_number"] ["_law_hand_here", "_law_many"] (defScope s_law_draw) := ⟨rfl, rfl, rfl, by decide +kernel, rfl, by decide +kernel, by decide +kernel⟩
abbrev s_law_counts : Stmt := (top 56)
theorem sc_law_counts : FnScope ["_law_hand_here", "_law_many", "_law_road"] ["_law_hand_here", "_law_many"] (defScope s_law_counts) := ⟨rfl, rfl, rfl, by decide +kernel, rfl, by decide +kernel, by decide +kernel⟩
abbrev s_law_web : Stmt := (top 57)
theorem sc_law_web : FnScope ["_law_hand_here", "_law_towns", "_law_most", "_law_houses", "_law_many", "_law_chained", "_law_roads", "_law_road", "_law_begin"] ["_law_hand_here", "_law_towns", "_law_most"] (defScope s_law_web) := ⟨rfl, rfl, rfl, by decide +kernel, rfl, by decide +kernel, by decide +kernel⟩
abbrev s_law_next : Stmt := (top 58)
theorem sc_law_next : FnScope ["_law_web_here", "_law_road", "_law_other"] ["_law_web_here", "_law_road"] (defScope s_law_next) := ⟨rfl, rfl, rfl, by decide +kernel, rfl, by decide +kernel, by decide +kernel⟩
abbrev s_law_way : Stmt := (top 59)
theorem sc_law_way : FnScope ["_law_hand_here", "_law_web_here", "_law_most", "_law_way_here", "_law_turn", "_law_behind"] ["_law_hand_here", "_law_web_here", "_law_most"] (defScope s_law_way) := ⟨rfl, rfl, rfl, by decide +kernel, rfl, by decide +kernel, by decide +kernel⟩
abbrev s_law_letters : Stmt := (top 60)
theorem sc_law_letters : FnScope ["_law_hand_here", "_law_web_here", "_law_many", "_law_span", "_law_letter"] ["_law_hand_here", "_law_web_here", "_law_many", "_law_span"] (defScope s_law_letters) := ⟨rfl, rfl, rfl, by decide +kernel, rfl, by decide +kernel, by decide +kernel⟩
abbrev s_law_ready : Stmt := (top 61)
theorem sc_law_ready : FnScope ["_law_web_here", "_law_letter", "_law_row", "_law_place"] ["_law_web_here", "_law_letter", "_law_row"] (defScope s_law_ready) := ⟨rfl, rfl, rfl, by decide +kernel, rfl, by decide +kernel, by decide +kernel⟩
abbrev s_law_hours : Stmt := (top 62)
theorem sc_law_hours : FnScope ["_law_hand_here", "_law_web_here", "_law_letters_here", "_law_rows", "_law_idle", "_law_tick", "_law_free", "_law_order", "_law_number", "_law_ready_here", "_law_road", "_law_letter", "_law_row"] ["_law_hand_here", "_law_web_here", "_law_letters_here"] (defScope s_law_hours) := ⟨rfl, rfl, rfl, by decide +kernel, rfl, by decide +kernel, by decide +kernel⟩
abbrev s_law_lot : Stmt := (top 63)
theorem sc_law_lot : FnScope ["_law_hand_here", "_law_web_here", "_law_kind", "_law_road"] ["_law_hand_here", "_law_web_here"] (defScope s_law_lot) := ⟨rfl, rfl, rfl, by decide +kernel, rfl, by decide +kernel, by decide +kernel⟩
abbrev s_law_made : Stmt := (top 64)
theorem sc_law_made : FnScope ["_law_web_here"] ["_law_web_here"] (defScope s_law_made) := ⟨rfl, rfl, rfl, by decide +kernel, rfl, by decide +kernel, by decide +kernel⟩
abbrev s_law_day : Stmt := (top 65)
theorem sc_law_day : FnScope ["_law_hand_here", "_law_towns", "_law_most", "_law_many", "_law_span", "_law_web_here", "_law_letters_here"] ["_law_hand_here", "_law_towns", "_law_most", "_law_many", "_law_span"] (defScope s_law_day) := ⟨rfl, rfl, rfl, by decide +kernel, rfl, by decide +kernel, by decide +kernel⟩
abbrev s_law_passings : Stmt := (top 66)
theorem sc_law_passings : FnScope ["_law_first", "_law_second", "_law_road", "_law_found", "_law_number", "_law_way_here", "_law_place"] ["_law_first", "_law_second", "_law_road"] (defScope s_law_passings) := ⟨rfl, rfl, rfl, by decide +kernel, rfl, by decide +kernel, by decide +kernel⟩
abbrev s_law_road_fits : Stmt := (top 67)
theorem sc_law_road_fits : FnScope ["_law_rooms", "_law_passings_here", "_law_rows", "_law_passing", "_law_at"] ["_law_rooms", "_law_passings_here"] (defScope s_law_road_fits) := ⟨rfl, rfl, rfl, by decide +kernel, rfl, by decide +kernel, by decide +kernel⟩
abbrev s_law_less : Stmt := (top 68)
theorem sc_law_less : FnScope ["_law_told", "_law_lot_here", "_law_found", "_law_way_here", "_law_come", "_law_home", "_law_row", "_law_place"] ["_law_told", "_law_lot_here"] (defScope s_law_less) := ⟨rfl, rfl, rfl, by decide +kernel, rfl, by decide +kernel, by decide +kernel⟩
abbrev s_law : Stmt := (top 69)
theorem sc_law : FnScope ["_law_script", "_law_hand_here", "_law_web_here", "_law_letters_here", "_law_hours_here", "_law_made_here", "_law_day_here", "_law_both", "_law_every", "_law_one", "_law_first", "_law_second", "_law_road", "_law_lot_here", "_law_other", "_law_card"] ["_law_script"] (defScope s_law) := ⟨rfl, rfl, rfl, by decide +kernel, rfl, by decide +kernel, by decide +kernel⟩
abbrev s_Web___init : Stmt := inClass (top 22) 0
theorem sc_Web___init : FnScope ["self", "houses", "roads", "rooms", "times"] ["self", "houses", "roads", "rooms", "times"] (defScope s_Web___init) := ⟨rfl, rfl, rfl, by decide +kernel, rfl, by decide +kernel, by decide +kernel⟩
abbrev s_Day___init : Stmt := inClass (top 31) 0
theorem sc_Day___init : FnScope ["self", "web", "letters", "hours"] ["self", "web", "letters", "hours"] (defScope s_Day___init) := ⟨rfl, rfl, rfl, by decide +kernel, rfl, by decide +kernel, by decide +kernel⟩
abbrev s_Web___eq : Stmt := inClass (top 22) 1
theorem sc_Web___eq : FnScope ["self", "other"] ["self", "other"] (defScope s_Web___eq) := ⟨rfl, rfl, rfl, by decide +kernel, rfl, by decide +kernel, by decide +kernel⟩
abbrev s_BadWeb___init : Stmt := inClass (top 10) 0
theorem sc_BadWeb___init : FnScope ["self", "part"] ["self", "part"] (defScope s_BadWeb___init) := ⟨rfl, rfl, rfl, by decide +kernel, rfl, by decide +kernel, by decide +kernel⟩
abbrev s_BadDay___init : Stmt := inClass (top 11) 0
theorem sc_BadDay___init : FnScope ["self", "part"] ["self", "part"] (defScope s_BadDay___init) := ⟨rfl, rfl, rfl, by decide +kernel, rfl, by decide +kernel, by decide +kernel⟩
abbrev s_NoNumber___init : Stmt := inClass (top 12) 0
theorem sc_NoNumber___init : FnScope ["self"] ["self"] (defScope s_NoNumber___init) := ⟨rfl, rfl, rfl, by decide +kernel, rfl, by decide +kernel, by decide +kernel⟩
abbrev s_OtherWeb___init : Stmt := inClass (top 13) 0
theorem sc_OtherWeb___init : FnScope ["self"] ["self"] (defScope s_OtherWeb___init) := ⟨rfl, rfl, rfl, by decide +kernel, rfl, by decide +kernel, by decide +kernel⟩
abbrev s_NoLot___init : Stmt := inClass (top 14) 0
theorem sc_NoLot___init : FnScope ["self"] ["self"] (defScope s_NoLot___init) := ⟨rfl, rfl, rfl, by decide +kernel, rfl, by decide +kernel, by decide +kernel⟩
abbrev s_NoSort___init : Stmt := inClass (top 15) 0
theorem sc_NoSort___init : FnScope ["self"] ["self"] (defScope s_NoSort___init) := ⟨rfl, rfl, rfl, by decide +kernel, rfl, by decide +kernel, by decide +kernel⟩
structure Tx (K : PySem.W.Frag) (mg : Str → Option Value) : Type where
  is_integer : Df K mg "is_integer" s_is_integer ["thing"]
  is_from : Df K mg "is_from" s_is_from ["low", "thing"]
  is_between : Df K mg "is_between" s_is_between ["low", "high", "thing"]
  is_tuple : Df K mg "is_tuple" s_is_tuple ["many", "thing"]
  is_pair : Df K mg "is_pair" s_is_pair ["thing"]
  are_integers : Df K mg "are_integers" s_are_integers ["many", "thing"]
  are_between : Df K mg "are_between" s_are_between ["many", "low", "high", "thing"]
  are_roads : Df K mg "are_roads" s_are_roads ["houses", "thing"]
  is_begin_and_end : Df K mg "is_begin_and_end" s_is_begin_and_end ["houses", "thing"]
  is_road : Df K mg "is_road" s_is_road ["web", "thing"]
  is_way : Df K mg "is_way" s_is_way ["web", "thing"]
  is_lot : Df K mg "is_lot" s_is_lot ["web", "thing"]
  is_letter : Df K mg "is_letter" s_is_letter ["web", "thing"]
  are_letters : Df K mg "are_letters" s_are_letters ["web", "thing"]
  are_hours : Df K mg "are_hours" s_are_hours ["letters", "thing"]
  first_ticks : Df K mg "first_ticks" s_first_ticks ["web", "letter", "row"]
  some_early : Df K mg "some_early" s_some_early ["web", "letters", "hours"]
  some_full : Df K mg "some_full" s_some_full ["web", "letters", "hours"]
  day_of_any_size : Df K mg "day_of_any_size" s_day_of_any_size ["web", "letters", "hours"]
  shifted : Df K mg "shifted" s_shifted ["day", "by"]
  laid_over : Df K mg "laid_over" s_laid_over ["day", "other"]
  is_sort : Df K mg "is_sort" s_is_sort ["thing"]
  check_lot_and_sort : Df K mg "check_lot_and_sort" s_check_lot_and_sort ["web", "lot", "sort"]
  cards : Df K mg "cards" s_cards ["day", "lot", "sort"]
  cards_of : Df K mg "cards_of" s_cards_of ["day", "lot", "sort"]
  told_of : Df K mg "told_of" s_told_of ["lot", "way", "row"]
  turns_of : Df K mg "turns_of" s_turns_of ["day"]
  are_cards : Df K mg "are_cards" s_are_cards ["web", "lot", "sort", "thing"]
  is_card : Df K mg "is_card" s_is_card ["web", "lot", "sort", "thing"]
  is_told : Df K mg "is_told" s_is_told ["lot", "way", "thing"]
  is_alone : Df K mg "is_alone" s_is_alone ["steps", "come", "told", "last"]
  _law_hand : Df K mg "_law_hand" s_law_hand ["_law_script"]
  _law_draw : Df K mg "_law_draw" s_law_draw ["_law_hand_here", "_law_many"]
  _law_counts : Df K mg "_law_counts" s_law_counts ["_law_hand_here", "_law_many"]
  _law_web : Df K mg "_law_web" s_law_web ["_law_hand_here", "_law_towns", "_law_most"]
  _law_next : Df K mg "_law_next" s_law_next ["_law_web_here", "_law_road"]
  _law_way : Df K mg "_law_way" s_law_way ["_law_hand_here", "_law_web_here", "_law_most"]
  _law_letters : Df K mg "_law_letters" s_law_letters ["_law_hand_here", "_law_web_here", "_law_many", "_law_span"]
  _law_ready : Df K mg "_law_ready" s_law_ready ["_law_web_here", "_law_letter", "_law_row"]
  _law_hours : Df K mg "_law_hours" s_law_hours ["_law_hand_here", "_law_web_here", "_law_letters_here"]
  _law_lot : Df K mg "_law_lot" s_law_lot ["_law_hand_here", "_law_web_here"]
  _law_made : Df K mg "_law_made" s_law_made ["_law_web_here"]
  _law_day : Df K mg "_law_day" s_law_day ["_law_hand_here", "_law_towns", "_law_most", "_law_many", "_law_span"]
  _law_passings : Df K mg "_law_passings" s_law_passings ["_law_first", "_law_second", "_law_road"]
  _law_road_fits : Df K mg "_law_road_fits" s_law_road_fits ["_law_rooms", "_law_passings_here"]
  _law_less : Df K mg "_law_less" s_law_less ["_law_told", "_law_lot_here"]
  law : Df K mg "law" s_law ["_law_script"]
  c_MOST_HOUSES : ∃ t, mg "MOST_HOUSES" = some (.int 12 t)
  c_MOST_ROADS : ∃ t, mg "MOST_ROADS" = some (.int 24 t)
  c_MOST_ROOMS : ∃ t, mg "MOST_ROOMS" = some (.int 3 t)
  c_LONGEST_TIME : ∃ t, mg "LONGEST_TIME" = some (.int 3 t)
  c_LONGEST_WAY : ∃ t, mg "LONGEST_WAY" = some (.int 8 t)
  c_MOST_LETTERS : ∃ t, mg "MOST_LETTERS" = some (.int 60 t)
  c_LAST_TICK : ∃ t, mg "LAST_TICK" = some (.int 1000000 t)
  c_SORTS : ∃ a, mg "SORTS" = some (.ref a) ∧ ∀ H, SqT K H a [.str "hours", .str "turns"]
  Web : Wf K mg "Web" "Web.__init__" s_Web___init ["self", "houses", "roads", "rooms", "times"] ["houses", "roads", "rooms", "times"]
  Day : Wf K mg "Day" "Day.__init__" s_Day___init ["self", "web", "letters", "hours"] ["web", "letters", "hours"]
  e_Web : Ef K Web.C "Web.__eq__" s_Web___eq ["self", "other"]
  x_BadWeb : Xf K mg "BadWeb" "BadWeb.__init__" s_BadWeb___init ["self", "part"] ["part"]
  x_BadDay : Xf K mg "BadDay" "BadDay.__init__" s_BadDay___init ["self", "part"] ["part"]
  x_NoNumber : Xf K mg "NoNumber" "NoNumber.__init__" s_NoNumber___init ["self"] []
  x_OtherWeb : Xf K mg "OtherWeb" "OtherWeb.__init__" s_OtherWeb___init ["self"] []
  x_NoLot : Xf K mg "NoLot" "NoLot.__init__" s_NoLot___init ["self"] []
  x_NoSort : Xf K mg "NoSort" "NoSort.__init__" s_NoSort___init ["self"] []
  n_isinstance : mg "isinstance" = none
  n_int : mg "int" = none
  n_bool : mg "bool" = none
  n_str : mg "str" = none
  n_tuple : mg "tuple" = none
  n_list : mg "list" = none
  n_len : mg "len" = none
  n_all : mg "all" = none
  n_any : mg "any" = none
  n_abs : mg "abs" = none
  n_range : mg "range" = none
  n_zip : mg "zip" = none
  n_enumerate : mg "enumerate" = none
  n_sorted : mg "sorted" = none
  n_sum : mg "sum" = none

section
variable {P : Program} {w : World} {K : PySem.W.Frag} {mg : Str → Option Value} {base : Heap}
def spThing (g : D → Bool) : Sp := fun vs H Q _ => ∃ (h : Addr) (v : V) (d : D), vs = [v] ∧ Rp H h v d ∧ Q (.bl (g d)) H
theorem ok_is_integer (T : Tx K mg) : FnOk P w K mg base CX0 1 T.is_integer.f T.is_integer.fd ["thing"] (spThing isInt) := by
  refine T.is_integer.F.ok sc_is_integer (fun vs H Q E h => ?_) (fun cdv A outer s H vs Q E hr h => ?_)
  · obtain ⟨_, v, d, rfl, _⟩ := h
    rfl
  · obtain ⟨_, v, d, rfl, r, k⟩ := h
    refine ⟨_, (pss_one (ps_ret (pe_and (pe_callB call_isi (by rfl) T.n_isinstance (by decide +kernel) (pa_cons (pv 0) (pa_cons (pe_bltn (v := .ty "int") (by rfl) T.n_int (by decide +kernel) rfl) pa_nil))) (pe_one (pe_not (pe_callB call_isi (by rfl) T.n_isinstance (by decide +kernel) (pa_cons (pv 0) (pa_cons (pe_bltn (v := .ty "bool") (by rfl) T.n_bool (by decide +kernel) rfl) pa_nil)))))))), ?_⟩
    refine ⟨_, rfl, _, _, _, _, _, rfl, .ty "int", r.ty, kit_ty (kitI d), _, rfl, ?_⟩
    cases e : isIB d with
    | false =>
      refine iteF ?_
      have : isInt d = false := by cases d <;> first | rfl | exact Bool.noConfusion e
      rw [this] at k
      exact k
    | true =>
      refine iteT ?_
      refine ⟨_, rfl, _, _, _, _, _, rfl, .ty "bool", r.ty, kit_ty (kitBo d), _, rfl, ?_⟩
      have : (!isB d) = isInt d := by cases d <;> first | rfl | exact Bool.noConfusion e
      rw [this]
      exact k
def spBtw : Sp := fun vs H Q _ => ∃ (h : Addr) (lo hi : Int) (v : V) (d : D), vs = [.int lo, .int hi, v] ∧ Rp H h v d ∧ Q (.bl (isBtw lo hi d)) H
theorem ok_is_between (T : Tx K mg) : FnOk P w K mg base CX0 2 T.is_between.f T.is_between.fd ["low", "high", "thing"] spBtw := by
  refine T.is_between.F.ok sc_is_between (fun vs H Q E h => ?_) (fun cdv A outer s H vs Q E hr h => ?_)
  · obtain ⟨_, lo, hi, v, d, rfl, _⟩ := h
    rfl
  · obtain ⟨_, lo, hi, v, d, rfl, r, k⟩ := h
    refine ⟨_, (pss_one (ps_ret (pe_and (pe_call (ok_is_integer T) (hr.mono (by decide)) rfl T.is_integer.g T.is_integer.F.kp T.is_integer.b .nil pass0 (pa_cons (pv 2) pa_nil)) (pe_one (pe_chain op_le op_le (pv 0) (pv 2) (pv 1)))))), ?_⟩
    refine ⟨_, rfl, _, v, d, rfl, r, _, rfl, ?_⟩
    cases r with
    | int i =>
      refine iteT ?_
      refine ⟨_, rfl, _, rfl, _, _, rfl, rfl, _, rfl, ?_⟩
      by_cases h1 : lo ≤ i
      · rw [decide_eq_true h1]
        refine iteT ?_
        refine ⟨_, rfl, _, _, rfl, rfl, ?_⟩
        have : isBtw lo hi (.int i) = decide (i ≤ hi) := by show (decide (lo ≤ i) && decide (i ≤ hi)) = _; rw [decide_eq_true h1]; rfl
        rw [this] at k
        exact k
      · rw [decide_eq_false h1]
        refine iteF ?_
        have : isBtw lo hi (.int i) = false := by show (decide (lo ≤ i) && decide (i ≤ hi)) = _; rw [decide_eq_false h1]; rfl
        rw [this] at k
        exact k
    | _ => exact iteF k
def isTupN (n : Int) : D → Bool | .tup ds => decide ((ds.length : Int) = n) | _ => false
def spTupN : Sp := fun vs H Q _ => ∃ (h : Addr) (n : Int) (v : V) (d : D), vs = [.int n, v] ∧ Rp H h v d ∧ Q (.bl (isTupN n d)) H
theorem int_eqd (a b : Int) : decide (V.int a = V.int b) = decide (a = b) := by
  by_cases e : a = b
  · subst e; simp
  · rw [decide_eq_false e, decide_eq_false fun z => e (V.int.inj z)]
theorem ok_is_tuple (T : Tx K mg) : FnOk P w K mg base CX0 1 T.is_tuple.f T.is_tuple.fd ["many", "thing"] spTupN := by
  refine T.is_tuple.F.ok sc_is_tuple (fun vs H Q E h => ?_) (fun cdv A outer s H vs Q E hr h => ?_)
  · obtain ⟨_, n, v, d, rfl, _⟩ := h
    rfl
  · obtain ⟨ha, n, v, d, rfl, r, k⟩ := h
    refine ⟨_, (pss_one (ps_ret (pe_and (pe_callB call_isi (by rfl) T.n_isinstance (by decide +kernel) (pa_cons (pv 1) (pa_cons (pe_bltn (v := .ty "tuple") (by rfl) T.n_tuple (by decide +kernel) rfl) pa_nil))) (pe_one (pe_cmpR op_eq (pe_callB call_len_seq (by rfl) T.n_len (by decide +kernel) (pa_cons (pv 1) pa_nil)) (pv 0) (nomark _)))))), ?_⟩
    refine ⟨_, rfl, _, _, _, _, _, rfl, .ty "tuple", r.ty, kit_ty (kitT d), _, rfl, ?_⟩
    cases r with
    | @tup _ xs ds e z ra =>
      refine iteT ?_
      refine ⟨_, rfl, _, _, rfl, .inr (SqT.of e), _, rfl, rfl, ?_⟩
      rw [int_eqd, ra.len]
      exact k
    | _ => exact iteF k
def spPair : Sp := fun vs H Q _ => ∃ (h : Addr) (v : V) (d : D), vs = [v] ∧ Rp H h v d ∧ Q (.bl (isTupN 2 d)) H
theorem ok_is_pair (T : Tx K mg) : FnOk P w K mg base CX0 2 T.is_pair.f T.is_pair.fd ["thing"] spPair := by
  refine T.is_pair.F.ok sc_is_pair (fun vs H Q E h => ?_) (fun cdv A outer s H vs Q E hr h => ?_)
  · obtain ⟨_, v, d, rfl, _⟩ := h
    rfl
  · obtain ⟨ha, v, d, rfl, r, k⟩ := h
    refine ⟨_, (pss_one (ps_ret (pe_call (ok_is_tuple T) (hr.mono (by decide)) rfl T.is_tuple.g T.is_tuple.F.kp T.is_tuple.b .nil pass0 (pa_cons pe_int (pa_cons (pv 0) pa_nil))))), ?_⟩
    exact ⟨_, rfl, ha, 2, v, d, rfl, r, k⟩
def spInts : Sp := fun vs H Q _ => ∃ (h : Addr) (n : Int) (v : V) (d : D), vs = [.int n, v] ∧ Rp H h v d ∧ ∀ H', Same H H' → Q (.bl (areInts n d)) H'
theorem areInts_tup (n : Int) (ds : List D) : areInts n (.tup ds) = (decide ((ds.length : Int) = n) && ds.all isInt) := rfl
theorem areBtw_tup (n lo hi : Int) (ds : List D) : areBtw n lo hi (.tup ds) = (decide ((ds.length : Int) = n) && ds.all (isBtw lo hi)) := rfl
theorem areRoads_tup (n : Int) (ds : List D) : areRoads n (.tup ds) = (decide (1 ≤ ds.length) && decide (ds.length ≤ 24) && ds.all (isBE n)) := rfl
theorem map_all (ds : List D) (p : D → Bool) : (ds.map p).all id = ds.all p := by rw [List.all_map]; rfl
theorem ok_are_integers (T : Tx K mg) : FnOk P w K mg base CX0 2 T.are_integers.f T.are_integers.fd ["many", "thing"] spInts := by
  refine T.are_integers.F.ok sc_are_integers (fun vs H Q E h => ?_) (fun cdv A outer s H vs Q E hr h => ?_)
  · obtain ⟨_, n, v, d, rfl, _⟩ := h
    rfl
  · obtain ⟨ha, n, v, d, rfl, r, k⟩ := h
    refine ⟨_, (pss_one (ps_ret (pe_and (pe_call (ok_is_tuple T) (hr.mono (by decide)) rfl T.is_tuple.g T.is_tuple.F.kp T.is_tuple.b .nil pass0 (pa_cons (pv 0) (pa_cons (pv 1) pa_nil))) (pe_one (pe_callB (cr_all rfl) (by rfl) T.n_all (by decide +kernel) (pa_cons (pe_lc (own := [("one", 2)]) (g := (gName 2)) (tt := tYes) rfl sc_are_integers.nd (pi_tup (pv 1)) (blkOk_by (own := [("one", 2)]) (N := ["many", "thing", "one"]) (sc := defScope s_are_integers) (by decide +kernel)) (fun _ _ _ _ _ => (pg_name (i := 2) sc_are_integers.nd rfl (Or.inl rfl))) (fun _ _ _ _ _ => pts_nil) (fun _ _ _ _ _ => (by exact (pe_call (ok_is_integer T) (hr.mono (by decide)) rfl T.is_integer.g T.is_integer.F.kp T.is_integer.b .nil pass0 (pa_cons (pv 2) pa_nil))))) pa_nil)))))), ?_⟩
    refine ⟨_, rfl, _, rfl, ha, n, v, d, rfl, r, _, rfl, ?_⟩
    cases r with
    | @tup _ xs ds e z ra =>
      show if decide ((ds.length : Int) = n) = true then _ else _
      by_cases hn : (ds.length : Int) = n
      · rw [decide_eq_true hn]
        refine iteT ?_
        refine ⟨_, rfl, _, rfl, ⟨_, SqT.of e⟩, fun A hA => all_tup e z ra isInt hA (fun x => rfl) (fun x d H' Q' _ _ rp q => ?_) (fun H' sm sl => ?_)⟩
        · exact ⟨_, rfl, ha, _, _, rfl, rp, q _ (Same.refl _)⟩
        · refine ⟨_, _, rfl, sl, ?_⟩
          rw [map_all]
          have := k H' sm
          rw [areInts_tup, decide_eq_true hn] at this
          exact this
      · rw [decide_eq_false hn]
        refine iteF ?_
        have := k H (Same.refl _)
        rw [areInts_tup, decide_eq_false hn] at this
        exact this
    | _ => exact iteF (k H (Same.refl _))
def spBtws : Sp := fun vs H Q _ => ∃ (h : Addr) (n lo hi : Int) (v : V) (d : D), vs = [.int n, .int lo, .int hi, v] ∧ Rp H h v d ∧ ∀ H', Same H H' → Q (.bl (areBtw n lo hi d)) H'
theorem btw_int (lo hi : Int) (ds : List D) : (ds.all isInt && ds.all (isBtw lo hi)) = ds.all (isBtw lo hi) := by
  cases e : ds.all (isBtw lo hi) with
  | false => rw [Bool.and_false]
  | true =>
    rw [Bool.and_true, List.all_eq_true]
    rw [List.all_eq_true] at e
    intro d hd
    have := e d hd
    cases d <;> first | rfl | exact Bool.noConfusion this
theorem ok_are_between (T : Tx K mg) : FnOk P w K mg base CX0 3 T.are_between.f T.are_between.fd ["many", "low", "high", "thing"] spBtws := by
  refine T.are_between.F.ok sc_are_between (fun vs H Q E h => ?_) (fun cdv A outer s H vs Q E hr h => ?_)
  · obtain ⟨_, n, lo, hi, v, d, rfl, _⟩ := h
    rfl
  · obtain ⟨ha, n, lo, hi, v, d, rfl, r, k⟩ := h
    refine ⟨_, (pss_one (ps_ret (pe_and (pe_call (ok_are_integers T) (hr.mono (by decide)) rfl T.are_integers.g T.are_integers.F.kp T.are_integers.b .nil pass0 (pa_cons (pv 0) (pa_cons (pv 3) pa_nil))) (pe_one (pe_callB (cr_all rfl) (by rfl) T.n_all (by decide +kernel) (pa_cons (pe_lc (own := [("one", 4)]) (g := (gName 4)) (tt := tYes) rfl sc_are_between.nd (pi_tup (pv 3)) (blkOk_by (own := [("one", 4)]) (N := ["many", "low", "high", "thing", "one"]) (sc := defScope s_are_between) (by decide +kernel)) (fun _ _ _ _ _ => (pg_name (i := 4) sc_are_between.nd rfl (Or.inl rfl))) (fun _ _ _ _ _ => pts_nil) (fun _ _ _ _ _ => (by exact (pe_chain op_le op_le (pv 1) (pv 4) (pv 2))))) pa_nil)))))), ?_⟩
    refine ⟨_, rfl, _, rfl, ha, _, _, _, rfl, r, fun H1 s1 => ⟨_, rfl, ?_⟩⟩
    cases e1 : areInts n d with
    | false =>
      refine iteF ?_
      have : areBtw n lo hi d = false := by
        cases d with
        | tup ds =>
          show (decide _ && ds.all (isBtw lo hi)) = false
          rw [← btw_int, ← Bool.and_assoc]
          have e2 : (decide ((ds.length : Int) = n) && ds.all isInt) = false := e1
          rw [e2]; rfl
        | _ => rfl
      have q := k H1 s1
      rw [this] at q
      exact q
    | true =>
      refine iteT ?_
      cases r.same s1 with
      | tup e z ra =>
        refine ⟨_, rfl, _, rfl, ⟨_, SqT.of e⟩, fun A hA => all_tup e z ra (isBtw lo hi) hA (fun x => rfl) (fun x d H' Q' hd _ rp q => ?_) (fun H' sm sl => ?_)⟩
        · have e2 := (Bool.and_eq_true_iff.mp e1).2
          rw [List.all_eq_true] at e2
          have e3 := e2 d hd
          cases rp with
          | int i =>
            refine ⟨_, rfl, _, rfl, _, _, rfl, rfl, _, rfl, ?_⟩
            by_cases h1 : lo ≤ i
            · rw [decide_eq_true h1]
              refine iteT ?_
              refine ⟨_, rfl, _, _, rfl, rfl, ?_⟩
              have : isBtw lo hi (.int i) = decide (i ≤ hi) := by show (decide (lo ≤ i) && decide (i ≤ hi)) = _; rw [decide_eq_true h1]; rfl
              have q2 := q _ (Same.refl _)
              rw [this] at q2
              exact q2
            · rw [decide_eq_false h1]
              refine iteF ?_
              have : isBtw lo hi (.int i) = false := by show (decide (lo ≤ i) && decide (i ≤ hi)) = _; rw [decide_eq_false h1]; rfl
              have q2 := q _ (Same.refl _)
              rw [this] at q2
              exact q2
          | _ => exact Bool.noConfusion e3
        · refine ⟨_, _, rfl, sl, ?_⟩
          rw [map_all]
          have := k H' (s1.trans sm)
          have e4 := (Bool.and_eq_true_iff.mp e1).1
          rw [areBtw_tup, e4] at this
          exact this
      | _ => exact Bool.noConfusion e1
def spBE : Sp := fun vs H Q _ => ∃ (h : Addr) (n : Int) (v : V) (d : D), vs = [.int n, v] ∧ Rp H h v d ∧ ∀ H', Same H H' → Q (.bl (isBE n d)) H'
theorem be_false {n : Int} {d : D} (e : areBtw 2 0 (n - 1) d = false) : isBE n d = false := by
  unfold isBE
  rw [e]; rfl
theorem be_true {n : Int} {d : D} (e : areBtw 2 0 (n - 1) d = true) : ∃ a b, d = .tup [.int a, .int b] ∧ isBE n d = !decide (a = b) := by
  have e0 := e
  cases d with
  | tup ds =>
    rw [areBtw_tup] at e
    obtain ⟨h1, h2⟩ := Bool.and_eq_true_iff.mp e
    have h3 := of_decide_eq_true h1
    match ds, h3 with
    | [x, y], _ =>
      rw [List.all_cons, List.all_cons, List.all_nil, Bool.and_true] at h2
      obtain ⟨h4, h5⟩ := Bool.and_eq_true_iff.mp h2
      cases x with
      | int a =>
        cases y with
        | int b =>
          refine ⟨a, b, rfl, ?_⟩
          unfold isBE
          rw [e0]; rfl
        | _ => exact Bool.noConfusion h5
      | _ => exact Bool.noConfusion h4
    | [], h => simp at h
    | [_], h => simp at h
    | _ :: _ :: _ :: _, h => simp at h; omega
  | _ => exact Bool.noConfusion e
theorem ok_is_begin_and_end (T : Tx K mg) : FnOk P w K mg base CX0 4 T.is_begin_and_end.f T.is_begin_and_end.fd ["houses", "thing"] spBE := by
  refine T.is_begin_and_end.F.ok sc_is_begin_and_end (fun vs H Q E h => ?_) (fun cdv A outer s H vs Q E hr h => ?_)
  · obtain ⟨_, n, v, d, rfl, _⟩ := h
    rfl
  · obtain ⟨ha, n, v, d, rfl, r, k⟩ := h
    refine ⟨_, (pss_one (ps_ret (pe_and (pe_call (ok_are_between T) (hr.mono (by decide)) rfl T.are_between.g T.are_between.F.kp T.are_between.b .nil pass0 (pa_cons pe_int (pa_cons pe_int (pa_cons (pe_op op_sub (pv 0) pe_int) (pa_cons (pv 1) pa_nil))))) (pe_one (pe_cmpR op_ne (pe_ix ix_tup (pv 1) pe_int (fun _ _ => rfl)) (pe_ix ix_tup (pv 1) pe_int (fun _ _ => rfl)) (nomark _)))))), ?_⟩
    refine ⟨_, rfl, _, _, rfl, rfl, _, rfl, ha, _, _, _, _, _, rfl, r, fun H1 s1 => ⟨_, rfl, ?_⟩⟩
    cases e1 : areBtw 2 0 (n - 1) d with
    | false =>
      refine iteF ?_
      have q := k H1 s1
      rw [be_false e1] at q
      exact q
    | true =>
      refine iteT ?_
      obtain ⟨a, b, rfl, e2⟩ := be_true e1
      have q := k H1 s1
      rw [e2] at q
      cases r.same s1 with
      | tup e z ra =>
        cases ra with
        | cons r1 ra =>
          cases ra with
          | cons r2 ra =>
            cases ra
            cases r1
            cases r2
            refine ⟨_, rfl, _, _, _, _, rfl, rfl, SqT.of e, atI_nat (j := 0) rfl, _, rfl, _, _, _, _, rfl, rfl, SqT.of e, atI_nat (j := 1) rfl, rfl, ?_⟩
            rw [int_eqd]
            exact q
def spRoads : Sp := fun vs H Q _ => ∃ (h : Addr) (n : Int) (v : V) (d : D), vs = [.int n, v] ∧ Rp H h v d ∧ ∀ H', Same H H' → Q (.bl (areRoads n d)) H'
theorem ok_are_roads (T : Tx K mg) : FnOk P w K mg base CX0 5 T.are_roads.f T.are_roads.fd ["houses", "thing"] spRoads := by
  refine T.are_roads.F.ok sc_are_roads (fun vs H Q E h => ?_) (fun cdv A outer s H vs Q E hr h => ?_)
  · obtain ⟨_, n, v, d, rfl, _⟩ := h
    rfl
  · obtain ⟨ha, n, v, d, rfl, r, k⟩ := h
    refine ⟨_, (pss_one (ps_ret (pe_and (pe_callB call_isi (by rfl) T.n_isinstance (by decide +kernel) (pa_cons (pv 1) (pa_cons (pe_bltn (v := .ty "tuple") (by rfl) T.n_tuple (by decide +kernel) rfl) pa_nil))) (pe_and (pe_chain op_le op_le pe_int (pe_callB call_len_seq (by rfl) T.n_len (by decide +kernel) (pa_cons (pv 1) pa_nil)) (pe_glob (v := .int 24) rfl T.c_MOST_ROADS.choose_spec ⟨_, rfl⟩)) (pe_one (pe_callB (cr_all rfl) (by rfl) T.n_all (by decide +kernel) (pa_cons (pe_lc (own := [("road", 2)]) (g := (gName 2)) (tt := tYes) rfl sc_are_roads.nd (pi_tup (pv 1)) (blkOk_by (own := [("road", 2)]) (N := ["houses", "thing", "road"]) (sc := defScope s_are_roads) (by decide +kernel)) (fun _ _ _ _ _ => (pg_name (i := 2) sc_are_roads.nd rfl (Or.inl rfl))) (fun _ _ _ _ _ => pts_nil) (fun _ _ _ _ _ => (by exact (pe_call (ok_is_begin_and_end T) (hr.mono (by decide)) rfl T.is_begin_and_end.g T.is_begin_and_end.F.kp T.is_begin_and_end.b .nil pass0 (pa_cons (pv 0) (pa_cons (pv 2) pa_nil)))))) pa_nil))))))), ?_⟩
    refine ⟨_, rfl, _, _, _, _, _, rfl, .ty "tuple", r.ty, kit_ty (kitT d), _, rfl, ?_⟩
    cases r with
    | @tup _ xs ds e z ra =>
      refine iteT ?_
      refine ⟨_, rfl, _, _, rfl, .inr (SqT.of e), _, _, rfl, rfl, _, rfl, ?_⟩
      rw [ra.len]
      by_cases h1 : 1 ≤ ds.length
      · rw [decide_eq_true (show (1 : Int) ≤ (ds.length : Int) by omega)]
        refine iteT ?_
        refine ⟨_, _, rfl, rfl, _, rfl, ?_⟩
        by_cases h2 : ds.length ≤ 24
        · rw [decide_eq_true (show (ds.length : Int) ≤ 24 by omega)]
          refine iteT ?_
          refine ⟨_, rfl, _, rfl, ⟨_, SqT.of e⟩, fun A hA => all_tup e z ra (isBE n) hA (fun x => rfl) (fun x d H' Q' _ _ rp q => ?_) (fun H' sm sl => ?_)⟩
          · exact ⟨_, rfl, _, rfl, ha, _, _, _, rfl, rp, q⟩
          · refine ⟨_, _, rfl, sl, ?_⟩
            rw [map_all]
            have := k H' sm
            rw [areRoads_tup, decide_eq_true h1, decide_eq_true h2] at this
            exact this
        · rw [decide_eq_false (show ¬ (ds.length : Int) ≤ 24 by omega)]
          refine iteF ?_
          have := k H (Same.refl _)
          rw [areRoads_tup, decide_eq_true h1, decide_eq_false h2] at this
          exact this
      · rw [decide_eq_false (show ¬ (1 : Int) ≤ (ds.length : Int) by omega)]
        refine iteF ?_
        have := k H (Same.refl _)
        rw [areRoads_tup, decide_eq_false h1] at this
        exact ⟨_, rfl, iteF this⟩
    | _ => exact iteF (k H (Same.refl _))
theorem btw_shape {lo hi : Int} {d : D} (e : isBtw lo hi d = true) : ∃ n, d = .int n := by
  cases d with
  | int n => exact ⟨n, rfl⟩
  | _ => exact Bool.noConfusion e
theorem roads_shape {n : Int} {d : D} (e : areRoads n d = true) : ∃ ds, d = .tup ds := by
  cases d with
  | tup ds => exact ⟨ds, rfl⟩
  | _ => exact Bool.noConfusion e
theorem tup_inv {H : Hp} {h : Addr} {v : V} {ds : List D} (r : Rp H h v (.tup ds)) : ∃ a xs, v = .ref a ∧ H a = some (.tup xs) ∧ xs.length ≤ 100000 ∧ RpA H h xs ds := by
  cases r with
  | tup e z ra => exact ⟨_, _, rfl, e, z, ra⟩
theorem int_inv {H : Hp} {h : Addr} {v : V} {i : Int} (r : Rp H h v (.int i)) : v = .int i := by
  cases r; rfl
theorem putF_lt {f : Str} {v : V} : ∀ {fs : List (Str × V)} {n : Nat}, fs.length < n → (putF f v fs).length < n + 1
  | [], n, h => by show 1 < n + 1; have : 0 < n := h; omega
  | (g, w) :: fs, n, h => by
    have h' : fs.length + 1 < n := h
    show (if g = f then (g, v) :: fs else (g, w) :: putF f v fs).length < n + 1
    by_cases e : g = f
    · rw [if_pos e]; show fs.length + 1 < n + 1; omega
    · rw [if_neg e]
      have := putF_lt (f := f) (v := v) (fs := fs) (n := n - 1) (by omega)
      show (putF f v fs).length + 1 < n + 1
      omega
/-- the error's own dict behind it -/
def spInitE (C : Addr) (f : Str) : Sp := fun vs H Q _ => ∃ (a : Addr) (y : V), vs = [.ref a, y] ∧ H a = some (exo a C none) ∧
  ∀ dx, H dx = none → dx ≠ a → Q .non (upd (upd H dx (exd dx [(f, y)])) a (exo a C (some dx)))
theorem ok_BadWeb___init (T : Tx K mg) : FnOk P w K mg base (L2.CX P w) 1 T.x_BadWeb.f T.x_BadWeb.fd ["self", "part"] (spInitE T.x_BadWeb.C "part") := by
  refine T.x_BadWeb.F.okX sc_BadWeb___init (fun vs H Q E h => ?_) (fun cdv A outer s H vs Q E hr h => ?_)
  · obtain ⟨a, y, rfl, _⟩ := h
    rfl
  · obtain ⟨a, y, rfl, ha, k⟩ := h
    refine ⟨_, pss_one (ps_ost (pv 0) (pv 1)), ?_⟩
    exact ⟨_, rfl, _, rfl, a, T.x_BadWeb.C, rfl, T.x_BadWeb.T, T.x_BadWeb.no _ (by simp), .inl ⟨ha, fun dx n ne => k dx n ne⟩⟩
def dlen : D → Nat | .tup ds => ds.length | _ => 0
def num : D → Int | .int i => i | _ => 0
/-- the first part that is not as told -/
def due (d1 d2 d3 d4 : D) : Option Str :=
  if isBtw 2 12 d1 = false then some "houses" else if areRoads (num d1) d2 = false then some "roads"
  else if areBtw (dlen d2) 1 3 d3 = false then some "rooms" else if areBtw (dlen d2) 1 3 d4 = false then some "times" else none
def webF (v1 v2 v3 v4 : V) : List (Str × V) := putF "times" v4 (putF "rooms" v3 (putF "roads" v2 (putF "houses" v1 [])))
def spWeb (C CB : Addr) : Sp := fun vs H Q E => ∃ (h p dx : Addr) (v1 v2 v3 v4 : V) (d1 d2 d3 d4 : D), vs = [.ref p, v1, v2, v3, v4] ∧ H p = some (.ins C dx []) ∧
  Rp H h v1 d1 ∧ Rp H h v2 d2 ∧ Rp H h v3 d3 ∧ Rp H h v4 d4 ∧
  (due d1 d2 d3 d4 = none → ∀ H', But p H H' → H' p = some (.ins C dx (webF v1 v2 v3 v4)) → Q .non H') ∧
  (∀ part, due d1 d2 d3 d4 = some part → ∀ H' d, Same H H' → H' d = some (.xd [("part", .str part)]) → E (.ref CB) (some d) H')
theorem err_same {H H1 : Hp} {a d C : Addr} {f : Str} {y : V} (s : Same H H1) (ha : H1 a = none) (hd : (upd H1 a (exo a C none)) d = none) (ne : d ≠ a) :
    Same H (upd (del (upd (upd (upd H1 a (exo a C none)) d (exd d [(f, y)])) a (exo a C (some d))) a) d (.xd [(f, y)])) := fun b o q => by
  have q1 := s b o q
  have n1 : b ≠ a := ne_of_none q1 ha
  have n2 : b ≠ d := fun z => by subst z; rw [upd_ne n1, q1] at hd; cases hd
  rw [upd_ne n2, del_ne n1, upd_ne n1, upd_ne n2, upd_ne n1]
  exact q1
theorem ok_Web___init (T : Tx K mg) : FnOk P w K mg base (L2.CX P w) 7 T.Web.f T.Web.fd ["self", "houses", "roads", "rooms", "times"] (spWeb T.Web.C T.x_BadWeb.C) := by
  refine T.Web.F.okX sc_Web___init (fun vs H Q E h => ?_) (fun cdv A outer s H vs Q E hr h => ?_)
  · obtain ⟨ha, p, dx, v1, v2, v3, v4, d1, d2, d3, d4, rfl, _⟩ := h
    rfl
  · obtain ⟨ha, p, dx, v1, v2, v3, v4, d1, d2, d3, d4, rfl, hp, r1, r2, r3, r4, kq, ke⟩ := h
    refine ⟨_, (pss_cons (ps_if (pt_not (pt_val (pe_call (ok_is_between T) (hr.mono (by decide)) rfl T.is_between.g T.is_between.F.kp T.is_between.b .nil pass0 (pa_cons pe_int (pa_cons (pe_glob (v := .int 12) rfl T.c_MOST_HOUSES.choose_spec ⟨_, rfl⟩) (pa_cons (pv 1) pa_nil))))))
      (pss_one (ps_raise rfl (takes_of rfl rfl rfl rfl) (pmk_oex T.x_BadWeb.T T.x_BadWeb.iC T.x_BadWeb.tI (ok_BadWeb___init T) (hr.mono (by decide)) T.x_BadWeb.b .nil passL rfl T.x_BadWeb.g (pa_cons pe_str pa_nil))))
      pss_nil)
      (pss_cons (ps_if (pt_not (pt_val (pe_call (ok_are_roads T) (hr.mono (by decide)) rfl T.are_roads.g T.are_roads.F.kp T.are_roads.b .nil pass0 (pa_cons (pv 1) (pa_cons (pv 2) pa_nil)))))
      (pss_one (ps_raise rfl (takes_of rfl rfl rfl rfl) (pmk_oex T.x_BadWeb.T T.x_BadWeb.iC T.x_BadWeb.tI (ok_BadWeb___init T) (hr.mono (by decide)) T.x_BadWeb.b .nil passL rfl T.x_BadWeb.g (pa_cons pe_str pa_nil))))
      pss_nil)
      (pss_cons (ps_if (pt_not (pt_val (pe_call (ok_are_between T) (hr.mono (by decide)) rfl T.are_between.g T.are_between.F.kp T.are_between.b .nil pass0 (pa_cons (pe_callB call_len_seq (by rfl) T.n_len (by decide +kernel) (pa_cons (pv 2) pa_nil)) (pa_cons pe_int (pa_cons (pe_glob (v := .int 3) rfl T.c_MOST_ROOMS.choose_spec ⟨_, rfl⟩) (pa_cons (pv 3) pa_nil)))))))
      (pss_one (ps_raise rfl (takes_of rfl rfl rfl rfl) (pmk_oex T.x_BadWeb.T T.x_BadWeb.iC T.x_BadWeb.tI (ok_BadWeb___init T) (hr.mono (by decide)) T.x_BadWeb.b .nil passL rfl T.x_BadWeb.g (pa_cons pe_str pa_nil))))
      pss_nil)
      (pss_cons (ps_if (pt_not (pt_val (pe_call (ok_are_between T) (hr.mono (by decide)) rfl T.are_between.g T.are_between.F.kp T.are_between.b .nil pass0 (pa_cons (pe_callB call_len_seq (by rfl) T.n_len (by decide +kernel) (pa_cons (pv 2) pa_nil)) (pa_cons pe_int (pa_cons (pe_glob (v := .int 3) rfl T.c_LONGEST_TIME.choose_spec ⟨_, rfl⟩) (pa_cons (pv 4) pa_nil)))))))
      (pss_one (ps_raise rfl (takes_of rfl rfl rfl rfl) (pmk_oex T.x_BadWeb.T T.x_BadWeb.iC T.x_BadWeb.tI (ok_BadWeb___init T) (hr.mono (by decide)) T.x_BadWeb.b .nil passL rfl T.x_BadWeb.g (pa_cons pe_str pa_nil))))
      pss_nil)
      (pss_cons (ps_fld (pv 0) (pv 1) rfl)
      (pss_cons (ps_fld (pv 0) (pv 2) rfl)
      (pss_cons (ps_fld (pv 0) (pv 3) rfl)
      (pss_one (ps_fld (pv 0) (pv 4) rfl))))))))), ?_⟩
    have raise : ∀ (part : Str) (H1 : Hp), Same H H1 → due d1 d2 d3 d4 = some part → ∀ a, H1 a = none →
        spInitE T.x_BadWeb.C "part" [.ref a, .str part] (upd H1 a (exo a T.x_BadWeb.C none)) (fun v H2 => v = .non ∧ ∃ (d : Addr) (fs : List (Str × V)), H2 a = some (exo a T.x_BadWeb.C (some d)) ∧ H2 d = some (exd d fs) ∧ H1 d = none ∧
          E (.ref T.x_BadWeb.C) (some d) (upd (del H2 a) d (.xd fs))) (fun _ _ _ => False) := by
      intro part H1 s1 hdue a hA
      refine ⟨a, _, rfl, upd_same, fun d hd nd => ⟨rfl, d, [("part", .str part)], upd_same, ?_, ?_, ?_⟩⟩
      · rw [upd_ne nd, upd_same]
      · rw [upd_ne nd] at hd; exact hd
      · exact ke part hdue _ d (err_same s1 hA hd nd) upd_same
    refine ⟨_, rfl, ha, _, _, _, _, rfl, r1, _, rfl, ?_⟩
    cases e1 : isBtw 2 12 d1 with
    | false =>
      refine iteT ⟨by show 1 ≤ 1000; decide, fun a hA => raise _ H (Same.refl _) (if_pos e1) a hA⟩
    | true =>
    refine iteF ?_
    have x1 : ¬ isBtw 2 12 d1 = false := by rw [e1]; decide
    obtain ⟨n, rfl⟩ := btw_shape e1
    cases r1
    refine ⟨_, rfl, _, rfl, ha, _, _, _, rfl, r2, fun H1 s1 => ⟨_, rfl, ?_⟩⟩
    cases e2 : areRoads n d2 with
    | false =>
      refine iteT ⟨by show 1 ≤ 1000; decide, fun a hA => raise _ H1 s1 ((if_neg x1).trans (if_pos e2)) a hA⟩
    | true =>
    refine iteF ?_
    have x2 : ¬ areRoads (num (.int n)) d2 = false := by show ¬ areRoads n d2 = false; rw [e2]; decide
    obtain ⟨ds, rfl⟩ := roads_shape e2
    obtain ⟨pa, xs, rfl, ea, za, ra⟩ := tup_inv r2
    refine ⟨_, rfl, _, _, rfl, .inr (SqT.of (s1 _ _ ea)), _, rfl, ha, _, _, _, _, _, rfl, r3.same s1, fun H2 s2 => ⟨_, rfl, ?_⟩⟩
    rw [ra.len]
    cases e3 : areBtw (ds.length : Int) 1 3 d3 with
    | false =>
      refine iteT ⟨by show 1 ≤ 1000; decide, fun a hA => raise _ H2 (s1.trans s2) ((if_neg x1).trans ((if_neg x2).trans (if_pos e3))) a hA⟩
    | true =>
    refine iteF ?_
    have x3 : ¬ areBtw (dlen (.tup ds)) 1 3 d3 = false := by show ¬ areBtw (ds.length : Int) 1 3 d3 = false; rw [e3]; decide
    refine ⟨_, rfl, _, _, rfl, .inr (SqT.of (s2 _ _ (s1 _ _ ea))), _, rfl, ha, _, _, _, _, _, rfl, (r4.same s1).same s2, fun H3 s3 => ⟨_, rfl, ?_⟩⟩
    rw [ra.len]
    cases e4 : areBtw (ds.length : Int) 1 3 d4 with
    | false =>
      refine iteT ⟨by show 1 ≤ 1000; decide, fun a hA => raise _ H3 ((s1.trans s2).trans s3) ((if_neg x1).trans ((if_neg x2).trans ((if_neg x3).trans (if_pos e4)))) a hA⟩
    | true =>
    refine iteF ?_
    have x4 : ¬ areBtw (dlen (.tup ds)) 1 3 d4 = false := by show ¬ areBtw (ds.length : Int) 1 3 d4 = false; rw [e4]; decide
    have sm := (s1.trans s2).trans s3
    have no : ∀ f ∈ (["houses", "roads", "rooms", "times"] : List Str), NoAttr K T.Web.C f := T.Web.no
    refine ⟨_, rfl, _, rfl, p, T.Web.C, dx, _, rfl, sm _ _ hp, T.Web.cl, no _ (by simp), (by decide), ?_⟩
    refine ⟨_, rfl, _, rfl, p, T.Web.C, dx, _, rfl, upd_same, T.Web.cl, no _ (by simp), (putF_lt (n := 999) (by decide)), ?_⟩
    refine ⟨_, rfl, _, rfl, p, T.Web.C, dx, _, rfl, upd_same, T.Web.cl, no _ (by simp), (putF_lt (n := 999) (putF_lt (n := 998) (by decide))), ?_⟩
    refine ⟨_, rfl, _, rfl, p, T.Web.C, dx, _, rfl, upd_same, T.Web.cl, no _ (by simp), (putF_lt (n := 999) (putF_lt (n := 998) (putF_lt (n := 997) (by decide)))), ?_⟩
    refine kq ((if_neg x1).trans ((if_neg x2).trans ((if_neg x3).trans (if_neg x4)))) _ (fun b o q n => ?_) upd_same
    rw [upd_ne n, upd_ne n, upd_ne n, upd_ne n]
    exact sm _ _ q
end
end Hc


set_option Elab.async false
set_option linter.all false
set_option maxRecDepth 100000
set_option maxHeartbeats 4000000
set_option autoImplicit false
namespace Hc
open PySem L2
/-- the hand: the script's cells at c, and four numbers -/
def HandAt (H : Hp) (h c : Addr) : Prop := ∃ (ns : List Int) (i d s t : Int), H h = some (.lst [.ref c, .int i, .int d, .int s, .int t]) ∧ H c = some (.lst (ns.map V.int)) ∧ 0 ≤ i ∧ c ≠ h
theorem HandAt.lst {H : Hp} {h c : Addr} (a : HandAt H h c) : IsLst H h := by
  obtain ⟨ns, i, d, s, t, e, _⟩ := a
  exact ⟨_, e⟩
theorem HandAt.ne {H : Hp} {h c : Addr} (a : HandAt H h c) {D : Addr} (hD : H D = none) : D ≠ h ∧ D ≠ c := by
  obtain ⟨ns, i, d, s, t, e, hc, _⟩ := a
  exact ⟨fun z => ne_of_none e hD z.symm, fun z => ne_of_none hc hD z.symm⟩
theorem HandAt.upd {H : Hp} {h c : Addr} (a : HandAt H h c) {D : Addr} {o : HO} (h1 : D ≠ h) (h2 : D ≠ c) : HandAt (upd H D o) h c := by
  obtain ⟨ns, i, d, s, t, e, hc, hi, hn⟩ := a
  exact ⟨ns, i, d, s, t, by rw [upd_ne (Ne.symm h1)]; exact e, by rw [upd_ne (Ne.symm h2)]; exact hc, hi, hn⟩
theorem HandAt.mono {H H' : Hp} {h c : Addr} (a : HandAt H h c) (k : Same H H') : HandAt H' h c := by
  obtain ⟨ns, i, d, s, t, e, hc, hi, hn⟩ := a
  exact ⟨ns, i, d, s, t, k _ _ e, k _ _ hc, hi, hn⟩
theorem But.upd {h D : Addr} {H H' : Hp} {o : HO} (k : But h H H') (hD : H D = none) : But h H (upd H' D o) := fun b u e n => by
  rw [upd_ne (ne_of_none e hD)]
  exact k _ _ e n
section
variable {P : Program} {w : World} {K : PySem.W.Frag} {mg : Str → Option Value} {base : Heap}
def spDraw : Sp := fun vs H Q _ => ∃ (h c : Addr) (m : Int), vs = [.ref h, .int m] ∧ HandAt H h c ∧ 0 < m ∧ m < 1000000 ∧
  ∀ n H', 0 ≤ n → n < m → HandAt H' h c → But h H H' → Q (.int n) H'
theorem mod_range (x : Int) {m : Int} (h : 0 < m) : 0 ≤ x.fmod m ∧ x.fmod m < m := by
  rw [Int.fmod_eq_emod_of_nonneg x (by omega)]
  exact ⟨Int.emod_nonneg x (by omega), Int.emod_lt_of_pos x h⟩
theorem ok__law_draw (T : Tx K mg) : FnOk P w K mg base CX0 1 T._law_draw.f T._law_draw.fd ["_law_hand_here", "_law_many"] spDraw := by
  refine T._law_draw.F.ok sc_law_draw (fun vs H Q E h => ?_) (fun cdv A outer s H vs Q E hr h => ?_)
  · obtain ⟨h, c, m, rfl, _⟩ := h
    rfl
  · obtain ⟨h, c, m, rfl, hA, m0, m1, k⟩ := h
    refine ⟨_, (C8.pss_cut (ps_if (PW.pt (pw_and (pt_cmpR op_eq (pe_ix ix_list (pv 0) pe_int (fun _ _ => rfl)) pe_int (nomark _)) (pw_and1 (pt_cmpR op_lt (pe_ix ix_list (pv 0) pe_int (fun _ _ => rfl)) (pe_callB call_len_seq (by rfl) T.n_len (by decide +kernel) (pa_cons (pe_ix ix_list (pv 0) pe_int (fun _ _ => rfl)) pa_nil)) (nomark _)))))
      (pss_cons (ps_set (i := 2) sc_law_draw.nd rfl (Or.inl rfl) (pe_ix ix_list (pe_ix ix_list (pv 0) pe_int (fun _ _ => rfl)) (pe_ix ix_list (pv 0) pe_int (fun _ _ => rfl)) (fun _ _ => rfl)))
      (pss_cons (ps_asg (pe_op op_add (pe_ix ix_list (pv 0) pe_int (fun _ _ => rfl)) pe_int) (pg_sub (pv 0) pe_int set_list))
      (pss_cons (ps_asg (pe_op op_modN (pe_callTy call_int1 (by rfl) T.n_int (by decide +kernel) (pa_cons (pe_op op_add (pe_op op_add (pe_op op_mul (pe_ix ix_list (pv 0) pe_int (fun _ _ => rfl)) pe_int) (pv 2)) pe_int) pa_nil)) pe_int) (pg_sub (pv 0) pe_int set_list))
      (pss_one (ps_if (pt_cmpR op_ge (pv 2) (pe_op op_pow pe_int pe_int) (nomark _))
      (pss_one (ps_asg (pv 2) (pg_sub (pv 0) pe_int set_list)))
      pss_nil)))))
      pss_nil)
      (pss_cons (ps_if (pt_cmpR op_gt (pe_ix ix_list (pv 0) pe_int (fun _ _ => rfl)) pe_int (nomark _))
      (pss_cons (ps_set (i := 3) sc_law_draw.nd rfl (Or.inl rfl) (pe_op op_modN (pe_callTy call_int1 (by rfl) T.n_int (by decide +kernel) (pa_cons (pe_ix ix_list (pv 0) pe_int (fun _ _ => rfl)) pa_nil)) (pv 1)))
      (pss_cons (ps_asg (pe_op op_fdivN (pe_ix ix_list (pv 0) pe_int (fun _ _ => rfl)) (pv 1)) (pg_sub (pv 0) pe_int set_list))
      (pss_one (ps_ret (pv 3)))))
      pss_nil)
      (pss_cons (ps_asg (pe_op op_add (pe_ix ix_list (pv 0) pe_int (fun _ _ => rfl)) pe_int) (pg_sub (pv 0) pe_int set_list))
      (pss_cons (ps_set (i := 4) sc_law_draw.nd rfl (Or.inl rfl) (pe_op op_modN (pe_callTy call_int1 (by rfl) T.n_int (by decide +kernel) (pa_cons (pe_op op_mul (pe_callTy call_int1 (by rfl) T.n_int (by decide +kernel) (pa_cons (pe_op op_add (pe_ix ix_list (pv 0) pe_int (fun _ _ => rfl)) (pe_op op_mul pe_int (pe_ix ix_list (pv 0) pe_int (fun _ _ => rfl)))) pa_nil)) pe_int) pa_nil)) pe_int))
      (pss_cons (ps_set (i := 4) sc_law_draw.nd rfl (Or.inl rfl) (pe_op op_modN (pe_callTy call_int1 (by rfl) T.n_int (by decide +kernel) (pa_cons (pe_op op_mul (pv 4) (pe_op op_add (pe_op op_fdivN (pv 4) pe_int) pe_int)) pa_nil)) pe_int))
      (pss_cons (ps_set (i := 4) sc_law_draw.nd rfl (Or.inl rfl) (pe_op op_modN (pe_callTy call_int1 (by rfl) T.n_int (by decide +kernel) (pa_cons (pe_op op_mul (pv 4) (pe_op op_add (pe_op op_fdivN (pv 4) pe_int) pe_int)) pa_nil)) pe_int))
      (pss_one (ps_ret (pe_op op_modN (pe_callTy call_int1 (by rfl) T.n_int (by decide +kernel) (pa_cons (pe_op op_fdivN (pv 4) pe_int) pa_nil)) (pv 1)))))))))), ?_⟩
    refine ⟨fun σ' H' => ∃ cv : Option V, σ' = [some (.ref h), some (.int m), cv, none, none] ∧ HandAt H' h c ∧ But h H H', ?_, ?_⟩
    · obtain ⟨ns, i, d, s, t, hh, hc, hi, hn⟩ := id hA
      refine ⟨_, rfl, h, _, _, _, rfl, rfl, SqL.of hh, atI_nat (j := 2) rfl, rfl, _, rfl, ?_⟩
      rw [int_eqd]
      by_cases h0 : d = 0
      · rw [decide_eq_true h0]
        refine iteT ?_
        refine ⟨_, rfl, h, _, _, _, rfl, rfl, SqL.of hh, atI_nat (j := 1) rfl, _, rfl, h, _, _, _, rfl, rfl, SqL.of hh, atI_nat (j := 0) rfl, c, _, rfl, .inl (SqL.of hc), _, _, rfl, rfl, _, rfl, ?_⟩
        rw [List.length_map]
        by_cases h1 : i < ns.length
        · rw [decide_eq_true h1]
          refine iteT ?_
          obtain ⟨j, rfl⟩ := Int.eq_ofNat_of_zero_le hi
          have hj : j < ns.length := by omega
          have hx : (ns.map V.int)[j]? = some (.int ns[j]) := by rw [List.getElem?_map, List.getElem?_eq_getElem hj]; rfl
          refine ⟨_, rfl, h, _, _, _, rfl, rfl, SqL.of hh, atI_nat (j := 0) rfl, _, rfl, h, _, _, _, rfl, rfl, SqL.of hh, atI_nat (j := 1) rfl, c, _, _, _, rfl, rfl, SqL.of hc, atI_nat hx, ?_⟩
          -- hand[1] = hand[1] + 1
          refine ⟨_, rfl, h, _, _, _, rfl, rfl, SqL.of hh, atI_nat (j := 1) rfl, _, _, rfl, rfl, _, rfl, h, _, 1, 1, rfl, rfl, hh, rfl, ?_⟩
          -- hand[3] = ..
          refine ⟨_, rfl, h, _, _, _, rfl, rfl, SqL.of upd_same, atI_nat (j := 3) rfl, _, _, rfl, rfl, .inr ⟨by decide, by decide⟩, _, rfl, _, _, rfl, rfl, _, _, rfl, rfl, .inl ⟨_, rfl, _, _, rfl, rfl, (show (2147483629 : Int) ≠ 0 by decide), _, rfl, h, _, 3, 3, rfl, rfl, upd_same, rfl, ?_⟩⟩
          refine ⟨_, rfl, _, _, rfl, rfl, ⟨by decide, by decide, by decide⟩, _, _, rfl, rfl, _, rfl, ?_⟩
          have bt : ∀ {H1 : Hp} {xs}, But h H H1 → But h H (upd H1 h xs) := fun b => b.trans but_upd
          refine ite2 (fun _ => ?_) (fun _ => ?_)
          · refine ⟨_, rfl, _, rfl, h, _, 2, 2, rfl, rfl, upd_same, rfl, ?_⟩
            exact ⟨_, rfl, ⟨ns, _, _, _, _, upd_same, (bt (bt (bt (But.refl h H)))) _ _ hc hn, by omega, hn⟩, bt (bt (bt (But.refl h H)))⟩
          · exact ⟨_, rfl, ⟨ns, _, _, _, _, upd_same, (bt (bt (But.refl h H))) _ _ hc hn, by omega, hn⟩, bt (bt (But.refl h H))⟩
        · rw [decide_eq_false h1]
          exact iteF ⟨_, rfl, hA, But.refl h H⟩
      · rw [decide_eq_false h0]
        exact iteF (iteF ⟨_, rfl, hA, But.refl h H⟩)
    · rintro σ' H1 ⟨cv, rfl, hA1, b1⟩
      obtain ⟨ns, i, d, s, t, hh, hc, hi, hn⟩ := id hA1
      have bt : ∀ {H2 : Hp} {xs}, But h H H2 → But h H (upd H2 h xs) := fun b => b.trans but_upd
      have bu : ∀ {H2 : Hp} {xs}, But h H1 H2 → But h H1 (upd H2 h xs) := fun b => b.trans but_upd
      refine ⟨_, rfl, h, _, _, _, rfl, rfl, SqL.of hh, atI_nat (j := 2) rfl, _, _, rfl, rfl, _, rfl, ?_⟩
      refine ite2 (fun _ => ?_) (fun _ => ?_)
      · refine ⟨_, rfl, h, _, _, _, rfl, rfl, SqL.of hh, atI_nat (j := 2) rfl, .inl ⟨_, rfl, _, rfl, _, _, rfl, rfl, by omega, ?_⟩⟩
        refine ⟨_, rfl, h, _, _, _, rfl, rfl, SqL.of hh, atI_nat (j := 2) rfl, _, rfl, _, _, rfl, rfl, ⟨by omega, by omega⟩, _, rfl, h, _, 2, 2, rfl, rfl, hh, rfl, ?_⟩
        obtain ⟨q1, q2⟩ := mod_range d m0
        exact ⟨_, rfl, k _ _ q1 q2 ⟨ns, _, _, _, _, upd_same, (bu (But.refl h H1)) _ _ hc hn, hi, hn⟩ (bt b1)⟩
      · refine ⟨_, rfl, h, _, _, _, rfl, rfl, SqL.of hh, atI_nat (j := 4) rfl, _, _, rfl, rfl, _, rfl, h, _, 4, 4, rfl, rfl, hh, rfl, ?_⟩
        refine ⟨_, rfl, h, _, _, _, rfl, rfl, SqL.of upd_same, atI_nat (j := 3) rfl, _, rfl, h, _, _, _, rfl, rfl, SqL.of upd_same, atI_nat (j := 4) rfl, _, _, rfl, rfl, .inl ⟨by decide, by decide⟩, _, _, rfl, rfl, .inl ⟨_, rfl, _, _, rfl, rfl, .inr ⟨by decide, by decide⟩, .inl ⟨_, rfl, _, _, rfl, rfl, (show (2147483647 : Int) ≠ 0 by decide), ?_⟩⟩⟩
        obtain ⟨u1, u2⟩ := mod_range ((s + 7919 * (t + 1)) * 48271) (m := 2147483647) (by decide)
        obtain ⟨x, hx⟩ : ∃ x, x = ((s + 7919 * (t + 1)) * 48271).fmod 2147483647 := ⟨_, rfl⟩
        rw [← hx] at u1 u2
        refine ⟨_, rfl, _, rfl, _, _, rfl, rfl, ⟨by decide, by decide⟩, _, _, rfl, rfl, _, _, rfl, rfl, .inl ⟨by rw [← hx]; omega, by rw [← hx]; omega⟩, .inl ⟨_, rfl, _, _, rfl, rfl, (show (2147483647 : Int) ≠ 0 by decide), ?_⟩⟩
        rw [← hx]
        obtain ⟨u1, u2⟩ := mod_range (x * (x.fdiv 1009 + 69621)) (m := 2147483647) (by decide)
        obtain ⟨y, hy⟩ : ∃ y, y = (x * (x.fdiv 1009 + 69621)).fmod 2147483647 := ⟨_, rfl⟩
        rw [← hy] at u1 u2
        refine ⟨_, rfl, _, rfl, _, _, rfl, rfl, ⟨by decide, by decide⟩, _, _, rfl, rfl, _, _, rfl, rfl, .inl ⟨by rw [← hy]; omega, by rw [← hy]; omega⟩, .inl ⟨_, rfl, _, _, rfl, rfl, (show (2147483399 : Int) ≠ 0 by decide), ?_⟩⟩
        rw [← hy]
        refine ⟨_, rfl, _, _, rfl, rfl, ⟨by decide, by decide⟩, .inl ⟨_, rfl, _, rfl, _, _, rfl, rfl, by omega, ?_⟩⟩
        obtain ⟨q1, q2⟩ := mod_range (((y * (y.fdiv 2003 + 40692)).fmod 2147483399).fdiv 16) m0
        exact k _ _ q1 q2 ⟨ns, _, _, _, _, upd_same, (bu (But.refl h H1)) _ _ hc hn, hi, hn⟩ (bt b1)
end
end Hc


set_option Elab.async false
set_option linter.all false
set_option maxRecDepth 100000
set_option maxHeartbeats 4000000
set_option autoImplicit false
namespace Hc
open PySem L2
theorem But.del {h p : Addr} {H H' : Hp} (k : But h H H') : But h (del H p) (del H' p) := fun b o e n => by
  by_cases z : b = p
  · subst z; rw [del_same] at e; cases e
  · rw [del_ne z] at e ⊢; exact k _ _ e n
theorem del_upd {H : Hp} {p : Addr} {o : HO} : del (upd H p o) p = del H p := by
  funext b
  by_cases z : b = p
  · subst z; rw [del_same, del_same]
  · rw [del_ne z, del_ne z, upd_ne z]
theorem del_sub {H : Hp} {p : Addr} : Same (del H p) H := fun b o e => by
  by_cases z : b = p
  · subst z; rw [del_same] at e; cases e
  · rw [del_ne z] at e; exact e
theorem del_new {H : Hp} {p q : Addr} {o : HO} (hq : H q = none) : Same (del H p) (del (upd H q o) p) := fun b u e => by
  by_cases z : b = p
  · subst z; rw [del_same] at e; cases e
  · rw [del_ne z] at e ⊢
    rw [upd_ne (ne_of_none e hq)]; exact e
theorem btw_of {lo hi i : Int} (a : lo ≤ i) (b : i ≤ hi) : isBtw lo hi (.int i) = true := by
  show (decide (lo ≤ i) && decide (i ≤ hi)) = true
  rw [decide_eq_true a, decide_eq_true b]; rfl
theorem RpA.ints {H : Hp} {h : Addr} : ∀ ns : List Int, RpA H h (ns.map V.int) (ns.map D.int)
  | [] => .nil
  | n :: r => .cons (.int n) (RpA.ints r)
theorem RpA.rep {H : Hp} {h : Addr} {v : V} {d : D} (r : Rp H h v d) : ∀ n : Nat, RpA H h (List.replicate n [v]).flatten (List.replicate n d)
  | 0 => .nil
  | n + 1 => by
    rw [List.replicate_succ, List.replicate_succ, List.flatten_cons]
    exact .cons r (RpA.rep r n)
theorem tyes {σ : St} {H : Hp} {A B : Hp → Prop} (h : A H) : tYes σ H (fun b H3 => if b = true then A H3 else B H3) := by
  unfold tYes
  show if true = true then A H else B H
  rw [if_pos rfl]
  exact h
theorem RpA.snoc_inv {H : Hp} {h : Addr} {d : D} : ∀ {ds : List D} {vs : List V}, RpA H h vs (ds ++ [d]) → ∃ vs' v, vs = vs' ++ [v] ∧ Rp H h v d
  | [], _, .cons r .nil => ⟨[], _, rfl, r⟩
  | e :: ds, _, .cons r q => by
    obtain ⟨vs', v, rfl, k⟩ := RpA.snoc_inv (ds := ds) q
    exact ⟨_ :: vs', v, rfl, k⟩
section
variable {P : Program} {w : World} {K : PySem.W.Frag} {mg : Str → Option Value} {base : Heap}
def spCounts : Sp := fun vs H Q _ => ∃ (h c : Addr) (m : Int), vs = [.ref h, .int m] ∧ HandAt H h c ∧ 0 < m ∧ m ≤ 1000 ∧
  ∀ v d H', HandAt H' h c → But h H H' → Rp H' h v d → areBtw m 1 3 d = true → Q v H'
theorem ok__law_counts (T : Tx K mg) : FnOk P w K mg base CX0 2 T._law_counts.f T._law_counts.fd ["_law_hand_here", "_law_many"] spCounts := by
  refine T._law_counts.F.ok sc_law_counts (fun vs H Q E h => ?_) (fun cdv A outer s H vs Q E hr h => ?_)
  · obtain ⟨h, c, m, rfl, _⟩ := h
    rfl
  · obtain ⟨h, c, m, rfl, hA, m0, m1, k⟩ := h
    refine ⟨_, (pss_cons (ps_if (pt_cmpR op_gt (pe_call (ok__law_draw T) (hr.mono (by decide)) rfl T._law_draw.g T._law_draw.F.kp T._law_draw.b .nil pass0 (pa_cons (pv 0) (pa_cons pe_int pa_nil))) pe_int (nomark _))
      (pss_one (ps_ret (pe_op op_repA (pe_tup (pa_cons pe_int pa_nil)) (pv 1))))
      pss_nil)
      (pss_one (ps_ret (pe_callTy call_tuple_of (by rfl) T.n_tuple (by decide +kernel) (pa_cons (pe_lc (own := [("_law_road", 2)]) (g := (gName 2)) (tt := tYes) rfl sc_law_counts.nd (pi_range1 (by rfl) T.n_range (pa_cons (pv 1) pa_nil)) (blkOk_by (own := [("_law_road", 2)]) (N := ["_law_hand_here", "_law_many", "_law_road"]) (sc := defScope s_law_counts) (by decide +kernel)) (fun _ _ _ _ _ => (pg_name (i := 2) sc_law_counts.nd rfl (Or.inl rfl))) (fun _ _ _ _ _ => pts_nil) (fun _ _ _ _ _ => (by exact (pe_op op_add pe_int (pe_call (ok__law_draw T) (hr.mono (by decide)) rfl T._law_draw.g T._law_draw.F.kp T._law_draw.b .nil pass0 (pa_cons (pv 0) (pa_cons pe_int pa_nil))))))) pa_nil))))), ?_⟩
    refine ⟨_, rfl, h, c, 3, rfl, hA, by decide, by decide, fun x H1 x0 x1 hA1 b1 => ⟨_, _, rfl, rfl, _, rfl, ite2 (fun _ => ?_) (fun _ => ?_)⟩⟩
    · refine ⟨by show 1 ≤ sizeLine; decide, fun p hp => ⟨_, rfl, p, m, _, rfl, rfl, SqT.of upd_same, by simp, by omega, m1, by simp, fun e => ?_, fun e q hq => ?_⟩⟩
      · subst e
        obtain ⟨n1, n2⟩ := hA1.ne hp
        refine k _ (.tup [.int 1]) _ (hA1.upd n1 n2) (b1.upd (b1.free n1 hp)) (.tup upd_same (by simp) (.cons (.int 1) .nil)) (by decide)
      · obtain ⟨n1, n2⟩ := hA1.ne hp
        have hA2 : HandAt (upd H1 p (.tup [V.int 1])) h c := hA1.upd n1 n2
        obtain ⟨n3, n4⟩ := hA2.ne hq
        have b2 : But h H (upd H1 p (.tup [V.int 1])) := b1.upd (b1.free n1 hp)
        refine k _ (.tup (List.replicate m.toNat (.int 1))) _ (hA2.upd n3 n4) (b2.upd (b2.free n3 hq)) (.tup upd_same ?_ (RpA.rep (.int 1) _)) ?_
        · simp; omega
        · rw [areBtw_tup, List.length_replicate, decide_eq_true (by omega), Bool.true_and, List.all_eq_true]
          intro d hd
          rw [List.eq_of_mem_replicate hd]
          decide
    · refine ⟨_, rfl, m, rfl, by omega, by omega, fun D hD => ?_⟩
      obtain ⟨n1, n2⟩ := hA1.ne hD
      have hD0 := b1.free n1 hD
      refine lc_range (lo := 0) (n := m.toNat) (fun i H' => ∃ ns : List Int, ns.length = i ∧ (∀ x ∈ ns, 1 ≤ x ∧ x ≤ 3) ∧ H' D = some (.lst (ns.map V.int)) ∧ HandAt H' h c ∧ But h H H')
        ⟨[], rfl, fun _ z => (nomatch z), upd_same, hA1.upd n1 n2, b1.upd hD0⟩ ?_ ?_
      · rintro i H2 hi ⟨ns, hl, hn, hd, hA2, b2⟩
        refine ⟨rfl, tyes ⟨_, rfl, h, c, 3, rfl, hA2, by decide, by decide, fun y H3 y0 y1 hA3 b3 => ⟨_, _, rfl, rfl, _, b3 _ _ hd n1, ?_, ns ++ [1 + y], ?_, ?_, ?_, hA3.upd n1 n2, (b2.trans b3).upd hD0⟩⟩⟩
        · rw [List.length_map]; exact line_lt (by omega)
        · rw [List.length_append, hl]; rfl
        · intro z hz
          rcases List.mem_append.mp hz with q | q
          · exact hn z q
          · rw [List.mem_singleton] at q; subst q; omega
        · rw [upd_same, List.map_append]; rfl
      · rintro H2 ⟨ns, hl, hn, hd, hA2, b2⟩
        refine ⟨_, _, rfl, .inl ⟨SqL.of hd, fun q hq => ?_⟩⟩
        obtain ⟨n3, n4⟩ := hA2.ne hq
        refine k _ (.tup (ns.map Hc.D.int)) _ (hA2.upd n3 n4) (b2.upd (b2.free n3 hq)) (.tup upd_same (by rw [List.length_map]; omega) (RpA.ints ns)) ?_
        rw [areBtw_tup, List.length_map, decide_eq_true (by omega), Bool.true_and, List.all_eq_true]
        intro d hd
        obtain ⟨x, hx, rfl⟩ := List.mem_map.mp hd
        exact btw_of (hn x hx).1 (hn x hx).2
/-- a drawn web -/
structure WebD (towns most : Int) (d : D) : Prop where
  ex : ∃ (n : Int) (ds : List D) (rm tm : D), d = .tup [.int n, .tup ds, rm, tm] ∧ 2 ≤ n ∧ n ≤ towns ∧ 1 ≤ ds.length ∧ (ds.length : Int) ≤ most ∧ ds.all (isBE n) = true ∧ areBtw ds.length 1 3 rm = true ∧ areBtw ds.length 1 3 tm = true
def spWebL : Sp := fun vs H Q _ => ∃ (h c : Addr) (towns most : Int), vs = [.ref h, .int towns, .int most] ∧ HandAt H h c ∧ 2 ≤ towns ∧ towns ≤ 1000 ∧ 1 ≤ most ∧ most ≤ 1000 ∧
  ∀ v d H', HandAt H' h c → But h H H' → Rp H' h v d → WebD towns most d → Q v H'
theorem be_of {n a b : Int} (a0 : 0 ≤ a) (a1 : a < n) (b0 : 0 ≤ b) (b1 : b < n) (ne : a ≠ b) : isBE n (.tup [.int a, .int b]) = true := by
  unfold isBE
  rw [areBtw_tup, List.all_cons, List.all_cons, List.all_nil, btw_of a0 (by omega), btw_of b0 (by omega)]
  show (decide (((2 : Nat) : Int) = 2) && (true && (true && true)) && !decide (a = b)) = true
  rw [decide_eq_false ne]; decide
theorem be_full {n : Int} {d : D} (e : isBE n d = true) : ∃ a b, d = .tup [.int a, .int b] ∧ 0 ≤ a ∧ a < n ∧ 0 ≤ b ∧ b < n ∧ a ≠ b := by
  have e1 := (Bool.and_eq_true_iff.mp e).1
  obtain ⟨a, b, rfl, e2⟩ := be_true e1
  rw [e] at e2
  have ne : a ≠ b := fun z => by rw [decide_eq_true z] at e2; cases e2
  rw [areBtw_tup, List.all_cons, List.all_cons, List.all_nil, Bool.and_true] at e1
  obtain ⟨_, e3⟩ := Bool.and_eq_true_iff.mp e1
  obtain ⟨h4, h5⟩ := Bool.and_eq_true_iff.mp e3
  obtain ⟨p1, p2⟩ := Bool.and_eq_true_iff.mp (show (decide (0 ≤ a) && decide (a ≤ n - 1)) = true from h4)
  obtain ⟨p3, p4⟩ := Bool.and_eq_true_iff.mp (show (decide (0 ≤ b) && decide (b ≤ n - 1)) = true from h5)
  have q1 := of_decide_eq_true p1
  have q2 := of_decide_eq_true p2
  have q3 := of_decide_eq_true p3
  have q4 := of_decide_eq_true p4
  exact ⟨a, b, rfl, q1, by omega, q3, by omega, ne⟩
theorem ring_ne {b x n : Int} (b0 : 0 ≤ b) (b1 : b < n) (x0 : 0 ≤ x) (x1 : x < n - 1) : b ≠ (b + 1 + x).fmod n := by
  rw [Int.fmod_eq_emod_of_nonneg _ (by omega)]
  by_cases h : b + 1 + x < n
  · rw [Int.emod_eq_of_lt (by omega) h]; omega
  · have e : (b + 1 + x) % n = b + 1 + x - n := by
      rw [← Int.sub_emod_right, Int.emod_eq_of_lt (by omega) (by omega)]
    rw [e]; omega
theorem ok__law_web (T : Tx K mg) : FnOk P w K mg base CX0 3 T._law_web.f T._law_web.fd ["_law_hand_here", "_law_towns", "_law_most"] spWebL := by
  refine T._law_web.F.ok sc_law_web (fun vs H Q E h => ?_) (fun cdv A outer s H vs Q E hr h => ?_)
  · obtain ⟨h, c, m, n, rfl, _⟩ := h
    rfl
  · obtain ⟨h, c, to, mo, rfl, hA, t0, t1, m0, m1, k⟩ := h
    refine ⟨_, (pss_cons (ps_set (i := 3) sc_law_web.nd rfl (Or.inl rfl) (pe_op op_add pe_int (pe_call (ok__law_draw T) (hr.mono (by decide)) rfl T._law_draw.g T._law_draw.F.kp T._law_draw.b .nil pass0 (pa_cons (pv 0) (pa_cons (pe_op op_sub (pv 1) pe_int) pa_nil)))))
      (pss_cons (ps_set (i := 4) sc_law_web.nd rfl (Or.inl rfl) (pe_op op_add pe_int (pe_call (ok__law_draw T) (hr.mono (by decide)) rfl T._law_draw.g T._law_draw.F.kp T._law_draw.b .nil pass0 (pa_cons (pv 0) (pa_cons (pv 2) pa_nil)))))
      (pss_cons (ps_set (i := 5) sc_law_web.nd rfl (Or.inl rfl) (pe_call (ok__law_draw T) (hr.mono (by decide)) rfl T._law_draw.g T._law_draw.F.kp T._law_draw.b .nil pass0 (pa_cons (pv 0) (pa_cons pe_int pa_nil))))
      (pss_cons (ps_set (i := 6) sc_law_web.nd rfl (Or.inl rfl) (pe_lst pa_nil))
      (pss_cons (ps_for PassesOwn.never rfl (pi_range1 (by rfl) T.n_range (pa_cons (pv 4) pa_nil)) (pg_name (i := 7) sc_law_web.nd rfl (Or.inl rfl))
      (pss_cons (ps_set (i := 8) sc_law_web.nd rfl (Or.inl rfl) (pe_call (ok__law_draw T) (hr.mono (by decide)) rfl T._law_draw.g T._law_draw.F.kp T._law_draw.b .nil pass0 (pa_cons (pv 0) (pa_cons (pv 3) pa_nil))))
      (C8.pss_cut (ps_if (PW.pt (pw_and (pt_cmpR op_eq (pv 5) pe_int (nomark _)) (pw_and (pt_cmpR op_gt (pv 7) pe_int (nomark _)) (pw_and1 (pt_cmpR op_gt (pe_call (ok__law_draw T) (hr.mono (by decide)) rfl T._law_draw.g T._law_draw.F.kp T._law_draw.b .nil pass0 (pa_cons (pv 0) (pa_cons pe_int pa_nil))) pe_int (nomark _))))))
      (pss_one (ps_set (i := 8) sc_law_web.nd rfl (Or.inl rfl) (pe_ix ix_tup (pe_ix ix_list (pv 6) (pe_un un_neg pe_int) (fun _ _ => rfl)) pe_int (fun _ _ => rfl))))
      pss_nil)
      (pss_one (ps_expr (pe_bm PySem.F.plainAttrs_list PySem.F.slot_list_append PySem.F.type_list_append mt_append (pv 6) (pa_cons (pe_tup (pa_cons (pv 8) (pa_cons (pe_op op_modN (pe_callTy call_int1 (by rfl) T.n_int (by decide +kernel) (pa_cons (pe_op op_add (pe_op op_add (pv 8) pe_int) (pe_call (ok__law_draw T) (hr.mono (by decide)) rfl T._law_draw.g T._law_draw.F.kp T._law_draw.b .nil pass0 (pa_cons (pv 0) (pa_cons (pe_op op_sub (pv 3) pe_int) pa_nil)))) pa_nil)) (pv 3)) pa_nil))) pa_nil)))))))
      (pss_one (ps_ret (pe_tup (pa_cons (pv 3) (pa_cons (pe_callTy call_tuple_of (by rfl) T.n_tuple (by decide +kernel) (pa_cons (pv 6) pa_nil)) (pa_cons (pe_call (ok__law_counts T) (hr.mono (by decide)) rfl T._law_counts.g T._law_counts.F.kp T._law_counts.b .nil pass0 (pa_cons (pv 0) (pa_cons (pv 4) pa_nil))) (pa_cons (pe_call (ok__law_counts T) (hr.mono (by decide)) rfl T._law_counts.g T._law_counts.F.kp T._law_counts.b .nil pass0 (pa_cons (pv 0) (pa_cons (pv 4) pa_nil))) pa_nil)))))))))))), ?_⟩
    refine ⟨_, rfl, _, rfl, _, _, rfl, rfl, h, c, to - 1, rfl, hA, by omega, by omega, fun x H1 x0 x1 hA1 b1 => ⟨_, _, rfl, rfl, ?_⟩⟩
    refine ⟨_, rfl, _, rfl, h, c, mo, rfl, hA1, by omega, by omega, fun y H2 y0 y1 hA2 b2 => ⟨_, _, rfl, rfl, ?_⟩⟩
    refine ⟨_, rfl, h, c, 2, rfl, hA2, by decide, by decide, fun z H3 z0 z1 hA3 b3 => ?_⟩
    refine ⟨by show 0 ≤ sizeLine; decide, fun p hp => ?_⟩
    obtain ⟨n1, n2⟩ := hA3.ne hp
    have bH3 := (b1.trans b2).trans b3
    have p0 := bH3.free n1 hp
    refine ⟨_, rfl, 1 + y, rfl, by omega, by omega, for_range (lo := 0) (n := (1 + y).toNat) (fun i σ' H' => ∃ (rv bv : Option V) (vs : List V) (ds : List D),
      σ' = [some (.ref h), some (.int to), some (.int mo), some (.int (2 + x)), some (.int (1 + y)), some (.int z), some (.ref p), rv, bv] ∧ HandAt H' h c ∧ But h H H' ∧
      H' p = some (.lst vs) ∧ RpA (del H' p) h vs ds ∧ ds.length = i ∧ ds.all (isBE (2 + x)) = true)
      ⟨none, none, [], [], rfl, hA3.upd n1 n2, bH3.upd p0, upd_same, .nil, rfl, rfl⟩ ?_ ?_⟩
    · rintro i σ' H4 hi ⟨rv, bv, vs, ds, rfl, hA4, b4, hp4, ra, hl, hall⟩
      refine ⟨_, rfl, _, rfl, h, c, 2 + x, rfl, hA4, by omega, by omega, fun b H5 c0 c1 hA5 b5 => ?_⟩
      have ra5 : RpA (del H5 p) h vs ds := ra.mono (by obtain ⟨zs, e⟩ := hA4.lst; exact ⟨zs, by rw [del_ne n1.symm]; exact e⟩) b5.del
      refine ⟨fun σ'' H' => ∃ (b' : Int), σ'' = [some (.ref h), some (.int to), some (.int mo), some (.int (2 + x)), some (.int (1 + y)), some (.int z), some (.ref p), some (.int (0 + i)), some (.int b')] ∧
        0 ≤ b' ∧ b' < 2 + x ∧ HandAt H' h c ∧ But h H H' ∧ H' p = some (.lst vs) ∧ RpA (del H' p) h vs ds, ?_, ?_⟩
      · have stay : ∀ H', HandAt H' h c → But h H5 H' → ∃ (b' : Int), ([some (.ref h), some (.int to), some (.int mo), some (.int (2 + x)), some (.int (1 + y)), some (.int z), some (.ref p), some (.int (0 + i)), some (.int b)] : St) = [some (.ref h), some (.int to), some (.int mo), some (.int (2 + x)), some (.int (1 + y)), some (.int z), some (.ref p), some (.int (0 + i)), some (.int b')] ∧
            0 ≤ b' ∧ b' < 2 + x ∧ HandAt H' h c ∧ But h H H' ∧ H' p = some (.lst vs) ∧ RpA (del H' p) h vs ds := fun H' hA' b' =>
          ⟨b, rfl, c0, c1, hA', (b4.trans b5).trans b', b' _ _ (b5 _ _ hp4 n1) n1, ra5.mono (by obtain ⟨zs, e⟩ := hA5.lst; exact ⟨zs, by rw [del_ne n1.symm]; exact e⟩) b'.del⟩
        refine ⟨_, rfl, rfl, _, rfl, ?_⟩
        rw [int_eqd]
        by_cases h0 : z = 1
        · rw [decide_eq_true h0]
          refine iteT ⟨_, rfl, _, _, rfl, rfl, _, rfl, ?_⟩
          by_cases h1 : (0 : Int) < 0 + (i : Int)
          · rw [decide_eq_true h1]
            refine iteT ⟨_, rfl, h, c, 4, rfl, hA5, by decide, by decide, fun u H6 u0 u1 hA6 b6 => ⟨_, _, rfl, rfl, _, rfl, ite2 (fun _ => ?_) (fun _ => stay H6 hA6 b6)⟩⟩
            obtain ⟨c', h3, c2, c3, c4, c5, c6, c7⟩ := stay H6 hA6 b6
            rcases List.eq_nil_or_concat ds with e | ⟨ds', d, e⟩
            · subst e; simp at hl; omega
            · rw [List.concat_eq_append] at e
              subst e
              obtain ⟨vs', v, rfl, rl⟩ := RpA.snoc_inv c7
              rw [List.all_append, Bool.and_eq_true, List.all_cons, List.all_nil, Bool.and_true] at hall
              obtain ⟨aa, bb, rfl, q1, q2, q3, q4, q5⟩ := be_full hall.2
              obtain ⟨qa, xs, rfl, ea, za, rA⟩ := tup_inv rl
              cases rA with
              | cons r1 rA =>
                cases rA with
                | cons r2 rA =>
                  cases rA
                  cases r1
                  cases r2
                  refine ⟨_, rfl, _, rfl, p, _, _, _, rfl, rfl, SqL.of c6, atI_last _ _, qa, _, _, _, rfl, rfl, SqT.of (del_sub _ _ ea), atI_nat (j := 1) rfl, ?_⟩
                  exact ⟨bb, rfl, q3, q4, c4, c5, c6, c7⟩
          · rw [decide_eq_false h1]
            exact iteF (iteF (stay H5 hA5 (But.refl h H5)))
        · rw [decide_eq_false h0]
          exact iteF (iteF (stay H5 hA5 (But.refl h H5)))
      · rintro σ'' H6 ⟨b', rfl, c0', c1', hA6, b6, hp6, ra6⟩
        refine ⟨_, rfl, .inl ⟨rfl, _, SqL.of hp6⟩, _, rfl, _, rfl, _, _, rfl, rfl, _, rfl, _, rfl, _, _, rfl, rfl, h, c, 2 + x - 1, rfl, hA6, by omega, by omega, fun u H7 u0 u1 hA7 b7 => ?_⟩
        refine ⟨_, _, rfl, rfl, .inl ⟨_, rfl, _, rfl, _, _, rfl, rfl, by omega, by show 2 ≤ sizeLine; decide, fun q hq => ?_⟩⟩
        obtain ⟨n3, n4⟩ := hA7.ne hq
        have hp7 := b7 _ _ hp6 n1
        have nqp : q ≠ p := (ne_of_none hp7 hq).symm
        have b8 := b6.trans b7
        have ra7 : RpA (del H7 p) h vs ds := ra6.mono (by obtain ⟨zs, e⟩ := hA6.lst; exact ⟨zs, by rw [del_ne n1.symm]; exact e⟩) b7.del
        have hvl := ra7.len
        refine ⟨p, vs, _, rfl, rfl, by rw [upd_ne nqp.symm]; exact hp7, line_lt (by omega), ?_⟩
        obtain ⟨f0, f1⟩ := mod_range (b' + 1 + u) (m := 2 + x) (by omega)
        refine ⟨_, _, _, ds ++ [.tup [.int b', .int ((b' + 1 + u).fmod (2 + x))]], rfl, (hA7.upd n3 n4).upd n1 n2, (b8.upd (b8.free n3 hq)).upd p0, upd_same, ?_, by rw [List.length_append, hl]; rfl, ?_⟩
        · rw [del_upd]
          exact (ra7.same (del_new hq)).app (.cons (.tup (by rw [del_ne nqp]; exact upd_same) (by show 2 ≤ 100000; decide) (.cons (.int _) (.cons (.int _) .nil))) .nil)
        · rw [List.all_append, hall, Bool.true_and, List.all_cons, List.all_nil, Bool.and_true]
          exact be_of c0' c1' f0 f1 (ring_ne c0' c1' u0 (by omega))
    · rintro σ' H4 ⟨rv, bv, vs, ds, rfl, hA4, b4, hp4, ra, hl, hall⟩
      have hvl := ra.len
      have ra4 := ra.same (del_sub (p := p))
      refine ⟨_, rfl, _, rfl, p, vs, rfl, .inl ⟨SqL.of hp4, fun q hq => ?_⟩⟩
      obtain ⟨n3, n4⟩ := hA4.ne hq
      have hA5 : HandAt (upd H4 q (.tup vs)) h c := hA4.upd n3 n4
      have b5 : But h H (upd H4 q (.tup vs)) := b4.upd (b4.free n3 hq)
      have r5 : Rp (upd H4 q (.tup vs)) h (.ref q) (.tup ds) := .tup upd_same (by omega) (ra4.same (same_upd hq))
      refine ⟨_, rfl, _, rfl, h, c, 1 + y, rfl, hA5, by omega, by omega, fun rmv rm H6 hA6 b6 r6 e6 => ?_⟩
      refine ⟨_, rfl, _, rfl, h, c, 1 + y, rfl, hA6, by omega, by omega, fun tmv tm H7 hA7 b7 r7 e7 => ?_⟩
      refine ⟨by show 4 ≤ sizeLine; decide, fun t ht => ?_⟩
      obtain ⟨n5, n6⟩ := hA7.ne ht
      have b8 := (b5.trans b6).trans b7
      have el : 1 + y = (ds.length : Int) := by omega
      refine k _ (.tup [.int (2 + x), .tup ds, rm, tm]) _ (hA7.upd n5 n6) (b8.upd (b8.free n5 ht)) (.tup upd_same (by show 4 ≤ 100000; decide) (.cons (.int _) (.cons ((r5.mono hA5.lst (b6.trans b7)).same (same_upd ht)) (.cons ((r6.mono hA6.lst b7).same (same_upd ht)) (.cons (r7.same (same_upd ht)) .nil)))))
        ⟨2 + x, ds, rm, tm, rfl, by omega, by omega, by omega, by omega, hall, by rw [← el]; exact e6, by rw [← el]; exact e7⟩
end
end Hc


set_option Elab.async false
set_option linter.all false
set_option maxRecDepth 100000
set_option maxHeartbeats 4000000
set_option autoImplicit false
namespace Hc
open PySem L2
section
variable {P : Program} {w : World} {K : PySem.W.Frag} {mg : Str → Option Value} {base : Heap}
def spHand (K : PySem.W.Frag) : Sp := fun vs H Q _ => ∃ (a : Addr) (ns : List Int), vs = [.ref a] ∧ SqL K H a (ns.map V.int) ∧ ns.length ≤ 63 ∧
  ∀ h c H', Same H H' → HandAt H' h c → Q (.ref h) H'
theorem cutV_ints (ns : List Int) (lo hi : Option Int) : ∃ ms : List Int, cutV (ns.map V.int) lo hi = ms.map V.int ∧ ms.length ≤ ns.length := by
  refine ⟨(ns.drop (HT.sIx ns.length 0 lo)).take (HT.sIx ns.length ns.length hi - HT.sIx ns.length 0 lo), ?_, ?_⟩
  · unfold cutV
    rw [List.length_map, List.map_take, List.map_drop]
  · rw [List.length_take, List.length_drop]; omega
theorem ok__law_hand (T : Tx K mg) : FnOk P w K mg base CX0 1 T._law_hand.f T._law_hand.fd ["_law_script"] (spHand K) := by
  refine T._law_hand.F.ok sc_law_hand (fun vs H Q E h => ?_) (fun cdv A outer s H vs Q E hr h => ?_)
  · obtain ⟨a, ns, rfl, _⟩ := h
    rfl
  · obtain ⟨a, ns, rfl, hS, hl, k⟩ := h
    refine ⟨_, (pss_cons (ps_setLc (i := 1) (own := [("_law_cell", 2)]) (g := (gName 2)) (tt := tYes) rfl sc_law_hand.nd rfl rfl (sw_true rfl rfl rfl (by decide +kernel)) (pi_list (pe_slice sl_list (pv 0) po_none (po_some pe_int))) (blkOk_by (own := [("_law_cell", 2)]) (N := ["_law_script", "_law_cells", "_law_cell"]) (sc := defScope s_law_hand) (by decide +kernel)) (fun _ _ _ _ _ => (pg_name (i := 2) sc_law_hand.nd rfl (Or.inl rfl))) (fun _ _ _ _ _ => pts_nil) (fun _ _ _ _ _ => (by exact (pe_callB call_abs (by rfl) T.n_abs (by decide +kernel) (pa_cons (pe_callTy call_int1 (by rfl) T.n_int (by decide +kernel) (pa_cons (pv 2) pa_nil)) pa_nil)))))
      (pss_one (ps_ret (pe_lst (pa_cons (pv 1) (pa_cons pe_int (pa_cons pe_int (pa_cons (pe_op op_add pe_int (pe_callB call_len_seq (by rfl) T.n_len (by decide +kernel) (pa_cons (pv 1) pa_nil))) (pa_cons pe_int pa_nil))))))))), ?_⟩
    obtain ⟨ms, em, lm⟩ := cutV_ints ns none (some 63)
    refine ⟨_, rfl, _, rfl, a, _, rfl, hS, fun p hp => ?_⟩
    rw [em]
    refine ⟨p, rfl, ⟨_, SqL.of upd_same⟩, fun D hD => ?_⟩
    have s1 : Same H (upd H p (.lst (ms.map V.int))) := same_upd hp
    have npD : p ≠ D := ne_of_none upd_same hD
    refine lc_list (K := K) (a := p) (xs := ms.map V.int) (fun i H' => ∃ ys : List Int, H' D = some (.lst (ys.map V.int)) ∧ ys.length = i ∧ H' p = some (.lst (ms.map V.int)) ∧ ∀ b o, H b = some o → H' b = some o)
      ⟨[], upd_same, rfl, by rw [upd_ne npD]; exact upd_same, fun b o q => by rw [upd_ne (ne_of_none (s1 _ _ q) hD)]; exact s1 _ _ q⟩ (fun i H' _ ⟨_, _, _, q, _⟩ => SqL.of q) ?_ ?_
    · rintro i x H' hx ⟨ys, hd, hy, hp', sm⟩
      have hi : i < (ms.map V.int).length := (List.getElem?_eq_some_iff.mp hx).1
      rw [List.length_map] at hi
      obtain ⟨z, rfl⟩ : ∃ z, x = V.int z := by
        rw [List.getElem?_map] at hx
        cases e : ms[i]? with
        | none => rw [e] at hx; cases hx
        | some z => rw [e] at hx; exact ⟨z, (Option.some.inj hx).symm⟩
      refine ⟨rfl, tyes ⟨_, rfl, .inl ⟨_, rfl, _, rfl, _, hd, ?_, ys ++ [if z < 0 then -z else z], ?_, ?_, ?_, ?_⟩⟩⟩
      · rw [List.length_map]; exact line_lt (by omega)
      · rw [upd_same, List.map_append]; rfl
      · rw [List.length_append, hy]; rfl
      · rw [upd_ne npD]; exact hp'
      · intro b o q
        have := s1 _ _ q
        rw [upd_ne (ne_of_none this hD)]
        exact sm _ _ q
    · rintro H' ⟨ys, hd, hy, hp', sm⟩
      refine ⟨_, rfl, _, rfl, _, _, rfl, .inl (SqL.of hd), _, _, rfl, rfl, by show 5 ≤ sizeLine; decide, fun hh nh => ?_⟩
      have nD : D ≠ hh := ne_of_none hd nh
      exact k hh D _ (fun b o q => by rw [upd_ne (ne_of_none (sm _ _ q) nh)]; exact sm _ _ q) ⟨ys, 0, 0, _, 0, upd_same, by rw [upd_ne nD]; exact hd, by decide, nD⟩
end
end Hc


set_option Elab.async false
set_option linter.all false
set_option maxRecDepth 100000
set_option maxHeartbeats 4000000
set_option autoImplicit false
namespace Hc
open PySem L2
theorem new_facts {H H2 : Hp} {h c p : Addr} {o : HO} (hA : HandAt H h c) (hp : H p = none) (e : upd H p o = H2) : Same H H2 ∧ H2 p = some o ∧ p ≠ h ∧ p ≠ c ∧ HandAt H2 h c := by
  subst e
  obtain ⟨n1, n2⟩ := hA.ne hp
  exact ⟨same_upd hp, upd_same, n1, n2, hA.upd n1 n2⟩
theorem RpA.of {H : Hp} {h : Addr} {xs : List V} {ds : List D} (r : RpA H h xs ds) {n : Int} (n0 : 0 ≤ n) (n1 : n < (xs.length : Int)) : ∃ v d, atI xs n = some v ∧ d ∈ ds ∧ Rp H h v d := by
  obtain ⟨j, rfl⟩ := Int.eq_ofNat_of_zero_le n0
  have hj : j < xs.length := by omega
  obtain ⟨d, h1, h2⟩ := r.get (List.getElem?_eq_getElem hj)
  exact ⟨_, d, atI_nat (List.getElem?_eq_getElem hj), List.mem_of_getElem? h1, h2⟩
theorem RpA.cut {H : Hp} {h : Addr} {xs : List V} {ds : List D} (r : RpA H h xs ds) (lo hi : Option Int) : ∃ es : List D, RpA H h (cutV xs lo hi) es ∧ es.length ≤ ds.length :=
  ⟨_, RpA.take _ (RpA.drop _ r), by rw [List.length_take, List.length_drop]; omega⟩
theorem slA_rp {K : PySem.W.Frag} {H : Hp} {h c : Addr} {x : V} {lo hi : Option Int} {Q : VK} {ds : List D} (hA : HandAt H h c) (r : Rp H h x (.tup ds))
    (k : ∀ v ds' H', Same H H' → HandAt H' h c → Rp H' h v (.tup ds') → ds'.length ≤ ds.length → Q v H') : rSlA K x lo hi H Q := by
  obtain ⟨a, xs, rfl, e, z, ra⟩ := tup_inv r
  refine ⟨a, xs, rfl, SqT.of e, fun _ => k _ ds _ (Same.refl _) hA r (Nat.le_refl _), fun _ p hp => ?_⟩
  obtain ⟨s2, e2, n2, n3, hA2⟩ := new_facts (o := .tup (cutV xs lo hi)) hA hp rfl
  obtain ⟨es, re, ze⟩ := ra.cut lo hi
  exact k _ es _ s2 hA2 (.tup e2 (Nat.le_trans (cutV_length _ _ _) z) (re.same s2)) ze
theorem catA_rp {K : PySem.W.Frag} {H : Hp} {h c : Addr} {x y : V} {Q : VK} {ds es : List D} (hA : HandAt H h c) (r1 : Rp H h x (.tup ds)) (r2 : Rp H h y (.tup es)) (z : ds.length + es.length ≤ 50000)
    (k : ∀ v H', Same H H' → HandAt H' h c → Rp H' h v (.tup (ds ++ es)) → Q v H') : rCatA K x y H Q := by
  obtain ⟨a, xs, rfl, e1, z1, ra⟩ := tup_inv r1
  obtain ⟨b, ys, rfl, e2, z2, rb⟩ := tup_inv r2
  have l1 := ra.len
  have l2 := rb.len
  refine ⟨a, b, xs, ys, rfl, rfl, SqT.of e1, SqT.of e2, line_le (by omega), fun ex => ?_, fun _ ey => ?_, fun _ _ p hp => ?_⟩
  · subst ex
    cases ra
    exact k _ _ (Same.refl _) hA r2
  · subst ey
    cases rb
    refine k _ _ (Same.refl _) hA ?_
    rw [List.append_nil]
    exact r1
  · obtain ⟨s3, e3, n2, n3, hA3⟩ := new_facts (o := .tup (xs ++ ys)) hA hp rfl
    exact k _ _ s3 hA3 (.tup e3 (by rw [List.length_append]; omega) ((ra.app rb).same s3))
theorem repA_rp {K : PySem.W.Frag} {H : Hp} {h c : Addr} {x : V} {n : Int} {Q : VK} {ds : List D} (hA : HandAt H h c) (r : Rp H h x (.tup ds)) (n0 : 1 ≤ n) (n1 : n ≤ 100) (d0 : ds ≠ []) (d1 : ds.length ≤ 1000)
    (k : ∀ v es H', Same H H' → HandAt H' h c → Rp H' h v (.tup es) → Q v H') : rRepA K x (.int n) H Q := by
  obtain ⟨a, xs, rfl, e1, z1, ra⟩ := tup_inv r
  have l1 := ra.len
  have rep : ∀ m : Nat, ∃ es, RpA H h (List.replicate m xs).flatten es := fun m => by
    induction m with
    | zero => exact ⟨_, .nil⟩
    | succ m ih =>
      obtain ⟨es, ih⟩ := ih
      rw [List.replicate_succ, List.flatten_cons]
      exact ⟨_, ra.app ih⟩
  refine ⟨a, n, xs, rfl, rfl, SqT.of e1, fun z => d0 (List.eq_nil_of_length_eq_zero (by rw [← l1, z]; rfl)), n0, by omega, by omega, fun _ => k _ _ _ (Same.refl _) hA r, fun _ p hp => ?_⟩
  obtain ⟨s3, e3, n2, n3, hA3⟩ := new_facts (o := .tup (List.replicate n.toNat xs).flatten) hA hp rfl
  obtain ⟨es, re⟩ := rep n.toNat
  refine k _ es _ s3 hA3 (.tup e3 ?_ (re.same s3))
  rw [PyProof.Rows.lm_len_rep_flat]
  have a1 : n.toNat * xs.length ≤ 100 * 1000 := Nat.mul_le_mul (by omega) (by omega)
  omega
structure BW (h : Addr) (H H' : Hp) : Prop where
  b : But h H H'
/-- no longer than what a sort of the law's takes -/
def short : D → Prop | .tup ds => ds.length ≤ 60 | _ => True
/-- some short thing -/
def RpX (H : Hp) (h : Addr) (v : V) : Prop := ∃ d, Rp H h v d ∧ short d
def RpXA (H : Hp) (h : Addr) (vs : List V) : Prop := ∃ ds, RpA H h vs ds ∧ ∀ d ∈ ds, short d
section
variable {H H' : Hp} {h : Addr}
theorem RpX.non : RpX H h .non := ⟨_, .non, trivial⟩
theorem RpX.bl (b : Bool) : RpX H h (.bl b) := ⟨_, .bl b, trivial⟩
theorem RpX.int (i : Int) : RpX H h (.int i) := ⟨_, .int i, trivial⟩
theorem RpX.str (s : Str) : RpX H h (.str s) := ⟨_, .str s, trivial⟩
theorem RpX.tup {a : Addr} {xs : List V} (e : H a = some (.tup xs)) (z : xs.length ≤ 60) (r : RpXA H h xs) : RpX H h (.ref a) := by
  obtain ⟨ds, r, _⟩ := r
  refine ⟨_, .tup e (by omega) r, ?_⟩
  show ds.length ≤ 60
  rw [← r.len]; exact z
theorem RpX.lst {a : Addr} {xs : List V} (e : H a = some (.lst xs)) (n : a ≠ h) : RpX H h (.ref a) := ⟨_, .lst e n, trivial⟩
theorem RpX.dct {a : Addr} {kvs : List (Key × V)} (e : H a = some (.dK kvs)) : RpX H h (.ref a) := ⟨_, .dct e, trivial⟩
theorem RpX.same {v : V} (s : Same H H') (r : RpX H h v) : RpX H' h v := by
  obtain ⟨d, r, q⟩ := r
  exact ⟨d, r.same s, q⟩
theorem RpX.monoB {c : Addr} {v : V} (s : But h H H') (l : HandAt H h c) (r : RpX H h v) : RpX H' h v := by
  obtain ⟨d, r, q⟩ := r
  exact ⟨d, r.mono l.lst s, q⟩
theorem Rp.monoB {c : Addr} {v : V} {d : D} (s : But h H H') (l : HandAt H h c) (r : Rp H h v d) : Rp H' h v d := r.mono l.lst s
theorem RpXA.nil : RpXA H h [] := ⟨_, .nil, fun _ z => nomatch z⟩
theorem RpXA.cons {v : V} {vs : List V} (r : RpX H h v) (q : RpXA H h vs) : RpXA H h (v :: vs) := by
  obtain ⟨d, r, s⟩ := r
  obtain ⟨ds, q, t⟩ := q
  exact ⟨_, .cons r q, fun e he => by
    rcases List.mem_cons.mp he with rfl | he
    · exact s
    · exact t e he⟩
theorem RpXA.app {vs ws : List V} (r : RpXA H h vs) (q : RpXA H h ws) : RpXA H h (vs ++ ws) := by
  obtain ⟨ds, r, s⟩ := r
  obtain ⟨es, q, t⟩ := q
  exact ⟨_, r.app q, fun e he => by
    rcases List.mem_append.mp he with he | he
    · exact s e he
    · exact t e he⟩
theorem RpXA.same {vs : List V} (s : Same H H') (r : RpXA H h vs) : RpXA H' h vs := by
  obtain ⟨d, r, q⟩ := r
  exact ⟨d, r.same s, q⟩
theorem RpXA.monoB {c : Addr} {vs : List V} (s : But h H H') (l : HandAt H h c) (r : RpXA H h vs) : RpXA H' h vs := by
  obtain ⟨d, r, q⟩ := r
  exact ⟨d, r.mono l.lst s, q⟩
theorem RpXA.at {xs : List V} (r : RpXA H h xs) {i : Nat} {x : V} (e : xs[i]? = some x) : RpX H h x := by
  obtain ⟨ds, r, t⟩ := r
  obtain ⟨d, h1, h2⟩ := r.get e
  exact ⟨d, h2, t d (List.mem_of_getElem? h1)⟩
theorem RpXA.get {xs : List V} (r : RpXA H h xs) {n : Int} (n0 : 0 ≤ n) (n1 : n < (xs.length : Int)) : ∃ v, atI xs n = some v ∧ RpX H h v := by
  obtain ⟨ds, r, t⟩ := r
  obtain ⟨v, d, h1, h3, h2⟩ := r.of n0 n1
  exact ⟨v, h1, d, h2, t d h3⟩
end
end Hc


set_option Elab.async false
set_option linter.all false
set_option maxRecDepth 100000
set_option maxHeartbeats 1000000
set_option autoImplicit false
namespace Hc
open PySem L2
def bg : D → Int | .tup (.int a :: _) => a | _ => 0
def en : D → Int | .tup (_ :: .int b :: _) => b | _ => 0
def dAt (ds : List D) (i : Int) : D := ds.getD i.toNat .non
/-- neighbours -/
def adj (R : Int → Int → Bool) (ns : List Int) : Bool := (List.range (ns.length - 1)).all fun j => R (ns.getD j 0) (ns.getD (j + 1) 0)
def nums : D → List Int | .tup ds => ds.map num | _ => []
def isRoad (rds : List D) (d : D) : Bool := isBtw 0 ((rds.length : Int) - 1) d
def isWay (rds : List D) : D → Bool
  | .tup ds => decide (1 ≤ ds.length) && decide (ds.length ≤ 8) && ds.all (isRoad rds) && adj (fun a b => decide (en (dAt rds a) = bg (dAt rds b))) (ds.map num)
  | _ => false
def isLot (rds : List D) : D → Bool
  | .tup ds => ds.all (isRoad rds) && adj (fun a b => decide (a < b)) (ds.map num)
  | _ => false
def nextL (rds : List D) (r : Int) : List Nat := (List.range rds.length).filter fun j => decide (bg (rds.getD j .non) = en (dAt rds r))
/-- a web's object at p -/
structure WebO (C : Addr) (H : Hp) (h p : Addr) (n : Int) (rds : List D) : Prop where
  ex : ∃ (dx : Addr) (v1 v2 v3 v4 : V), H p = some (.ins C dx (webF v1 v2 v3 v4)) ∧ Rp H h v2 (.tup rds)
  all : rds.all (isBE n) = true
  l1 : 1 ≤ rds.length
  l2 : rds.length ≤ 24
theorem WebO.same {C : Addr} {H H' : Hp} {h p : Addr} {n : Int} {rds : List D} (w : WebO C H h p n rds) (s : Same H H') : WebO C H' h p n rds := by
  obtain ⟨⟨dx, v1, v2, v3, v4, e, r⟩, a, b, c⟩ := w
  exact ⟨⟨dx, v1, v2, v3, v4, s _ _ e, r.same s⟩, a, b, c⟩
theorem WebO.but {C : Addr} {H H' : Hp} {h c p : Addr} {n : Int} {rds : List D} (w : WebO C H h p n rds) (k : But h H H') (hA : HandAt H h c) : WebO C H' h p n rds := by
  obtain ⟨⟨dx, v1, v2, v3, v4, e, r⟩, a, b, c⟩ := w
  refine ⟨⟨dx, v1, v2, v3, v4, k _ _ e ?_, r.monoB k hA⟩, a, b, c⟩
  obtain ⟨zs, q⟩ := hA.lst
  exact ne_of e q (by intro z; cases z)
theorem webN {a b : Str} (h : ¬ a = b) : ¬ a = b := h
theorem wF_r (v1 v2 v3 v4 : V) : (webF v1 v2 v3 v4).lookup ("roads" : Str) = some v2 := by
  have h1 : ¬ (("roads" : Str) = "rooms") := by decide +kernel
  have h2 : ¬ (("roads" : Str) = "times") := by decide +kernel
  unfold webF
  rw [lookup_putF, if_neg h2, lookup_putF, if_neg h1, lookup_putF, if_pos rfl]
/-- the road i of a web's roads -/
theorem RpA.road {H : Hp} {h : Addr} {xs : List V} {rds : List D} {n : Int} (r : RpA H h xs rds) (hall : rds.all (isBE n) = true) {j : Nat} (hj : j < rds.length) :
    ∃ q a b, xs[j]? = some (.ref q) ∧ H q = some (.tup [.int a, .int b]) ∧ bg (rds.getD j .non) = a ∧ en (rds.getD j .non) = b := by
  have hx : j < xs.length := by rw [r.len]; exact hj
  obtain ⟨d, h1, h2⟩ := r.get (List.getElem?_eq_getElem hx)
  rw [List.all_eq_true] at hall
  obtain ⟨a, b, rfl, _⟩ := be_full (hall d (List.mem_of_getElem? h1))
  obtain ⟨q, ys, e1, e2, _, ra⟩ := tup_inv h2
  have eg : rds.getD j .non = .tup [.int a, .int b] := by rw [List.getD_eq_getElem?_getD, h1]; rfl
  cases ra with
  | cons r1 ra =>
    cases ra with
    | cons r2 ra =>
      cases ra
      cases r1
      cases r2
      exact ⟨q, a, b, by rw [List.getElem?_eq_getElem hx, e1], e2, by rw [eg]; rfl, by rw [eg]; rfl⟩
theorem road_in {rds : List D} {d : D} (e : isRoad rds d = true) : ∃ j : Nat, d = .int j ∧ j < rds.length := by
  cases d with
  | int i =>
    have e1 : (decide (0 ≤ i) && decide (i ≤ (rds.length : Int) - 1)) = true := e
    rw [Bool.and_eq_true] at e1
    have h1 := of_decide_eq_true e1.1
    have h2 := of_decide_eq_true e1.2
    exact ⟨i.toNat, by rw [Int.toNat_of_nonneg h1], by omega⟩
  | _ => exact Bool.noConfusion e
/-- a tuple of numbers of roads -/
theorem roads_in {H : Hp} {h : Addr} {rds : List D} : ∀ {xs : List V} {ds : List D}, RpA H h xs ds → ds.all (isRoad rds) = true → ∃ ns : List Nat, ds = ns.map (fun j => .int (j : Nat)) ∧ xs = ns.map (fun j => V.int (j : Nat)) ∧ ∀ j ∈ ns, j < rds.length
  | _, _, .nil, _ => ⟨[], rfl, rfl, fun _ z => nomatch z⟩
  | _, _, .cons r q, e => by
    rw [List.all_cons, Bool.and_eq_true] at e
    obtain ⟨j, rfl, hj⟩ := road_in e.1
    obtain ⟨ns, rfl, rfl, hn⟩ := roads_in q e.2
    cases r
    exact ⟨j :: ns, rfl, rfl, fun k hk => by
      rcases List.mem_cons.mp hk with rfl | hk
      · exact hj
      · exact hn k hk⟩
theorem sl1 {K : PySem.W.Frag} {H : Hp} {a : Addr} {xs : List V} {Q : VK} (e : H a = some (.tup xs)) (k : ∀ b H', Same H H' → H' b = some (.tup (xs.drop 1)) → Q (.ref b) H') : rSlA K (.ref a) (some 1) none H Q := by
  have s1 : HT.sIx xs.length 0 (some 1) = min 1 xs.length := by
    show (if (1 : Int) < 0 then ((1 : Int) + (xs.length : Int)).toNat else min (1 : Int).toNat xs.length) = _
    rw [if_neg (by decide)]; rfl
  have s2 : HT.sIx xs.length xs.length none = xs.length := rfl
  have cut : cutV xs (some 1) none = xs.drop 1 := by
    unfold cutV
    rw [s1, s2]
    by_cases h : xs.length = 0
    · have : xs = [] := List.eq_nil_of_length_eq_zero h
      subst this; rfl
    · have m : min 1 xs.length = 1 := by omega
      rw [m]
      exact List.take_of_length_le (by rw [List.length_drop]; exact Nat.le_refl _)
  refine ⟨a, xs, rfl, SqT.of e, fun hw => ?_, fun _ p hp => ?_⟩
  · have h0 : xs.length = 0 := by
      rw [s1] at hw; omega
    have : xs = [] := List.eq_nil_of_length_eq_zero h0
    subst this
    exact k a H (Same.refl H) e
  · exact k p _ (same_upd hp) (by rw [upd_same, cut])
/-- [.. for i, x in enumerate(t) ..] -/
theorem lc_enumT {K : PySem.W.Frag} {a : Addr} {xs : List V} {g : TG} {tt : TT} {te : TE} {vs : List Nat} {σ : St} {H1 : Hp} {D : Addr} {Qd : Hp → Prop} (Pv : Nat → Hp → Prop) (h0 : Pv 0 (upd H1 D (.lst [])))
    (hl : ∀ i H, Pv i H → SqT K H a xs)
    (hs : ∀ (i : Nat) (x : V) (T : Addr) (H : Hp), xs[i]? = some x → H T = none → Pv i H → g (.ref T) (wipe σ vs) (upd H T (.tup [.int (i : Nat), x])) fun σ2 H2 => wipe σ2 vs = wipe σ vs ∧ tt σ2 H2 fun b H3 =>
      if b = true then te σ2 H3 fun y H4 => ∃ acc, H4 D = some (.lst acc) ∧ acc.length < sizeLine ∧ Pv (i + 1) (upd H4 D (.lst (acc ++ [y]))) else Pv (i + 1) H3) (hd : ∀ H, Pv xs.length H → Qd H) :
    ∃ W : Nat → Nat → Hp → Prop, (∃ m, W 0 m (upd H1 D (.lst []))) ∧ ∀ i m H, W i m H →
      ((IteT K a).stop i H ∧ Qd H) ∨ ((IteT K a).go i H ∧ ∃ Nx : Hp → Prop, (∀ H', Nx H' → ∃ m', m' < m ∧ W (i + 1) m' H') ∧ ∀ x H', (IteT K a).yld i H x H' → g x (wipe σ vs) H' fun σ2 H2 => wipe σ2 vs = wipe σ vs ∧ tt σ2 H2 fun b H3 =>
        if b = true then te σ2 H3 fun y H4 => ∃ acc, H4 D = some (.lst acc) ∧ acc.length < sizeLine ∧ Nx (upd H4 D (.lst (acc ++ [y]))) else Nx H3) := by
  refine ⟨fun i m H => m = xs.length - i ∧ i ≤ xs.length ∧ Pv i H, ⟨_, rfl, Nat.zero_le _, h0⟩, ?_⟩
  rintro i m H ⟨rfl, hi, p⟩
  have q := hl i H p
  by_cases hlt : i < xs.length
  · refine .inr ⟨⟨xs, _, q, List.getElem?_eq_getElem hlt⟩, Pv (i + 1), fun H' p' => ⟨xs.length - (i + 1), by omega, rfl, hlt, p'⟩, fun v H' y => ?_⟩
    obtain ⟨T, x', rfl, hT, rfl, f1⟩ := y
    exact hs i x' T H (f1 xs q) hT p
  · have e : i = xs.length := by omega
    subst e
    exact .inl ⟨⟨xs, q, Nat.le_refl _⟩, hd H p⟩
section
variable {P : Program} {w : World} {K : PySem.W.Frag} {mg : Str → Option Value} {base : Heap}
def spIsRoad (C : Addr) : Sp := fun vs H Q _ => ∃ (h p : Addr) (n : Int) (rds : List D) (v : V) (d : D), vs = [.ref p, v] ∧ WebO C H h p n rds ∧ Rp H h v d ∧ Q (.bl (isRoad rds d)) H
theorem ok_is_road (T : Tx K mg) : FnOk P w K mg base CX0 3 T.is_road.f T.is_road.fd ["web", "thing"] (spIsRoad T.Web.C) := by
  refine T.is_road.F.ok sc_is_road (fun vs H Q E h => ?_) (fun cdv A outer s H vs Q E hr h => ?_)
  · obtain ⟨_, p, n, rds, v, d, rfl, _⟩ := h
    rfl
  · obtain ⟨h, p, n, rds, v, d, rfl, W, r, k⟩ := h
    obtain ⟨dx, v1, v2, v3, v4, hp, r2⟩ := W.ex
    obtain ⟨pa, xs, rfl, ea, za, ra⟩ := tup_inv r2
    refine ⟨_, (pss_one (ps_ret (pe_call (ok_is_between T) (hr.mono (by decide)) rfl T.is_between.g T.is_between.F.kp T.is_between.b .nil pass0 (pa_cons pe_int (pa_cons (pe_op op_sub (pe_callB call_len_seq (by rfl) T.n_len (by decide +kernel) (pa_cons (pe_fld (pv 0) rfl) pa_nil)) pe_int) (pa_cons (pv 1) pa_nil)))))), ?_⟩
    refine ⟨_, rfl, p, T.Web.C, dx, _, _, rfl, hp, T.Web.cl, T.Web.no _ (by simp), wF_r _ _ _ _, pa, xs, rfl, .inr (SqT.of ea), _, _, rfl, rfl, _, rfl, h, 0, _, v, d, rfl, r, ?_⟩
    rw [ra.len]
    exact k
theorem isWay_tup (rds : List D) (ds : List D) : isWay rds (.tup ds) = (decide (1 ≤ ds.length) && decide (ds.length ≤ 8) && ds.all (isRoad rds) && adj (fun a b => decide (en (dAt rds a) = bg (dAt rds b))) (ds.map num)) := rfl
theorem isLot_tup (rds : List D) (ds : List D) : isLot rds (.tup ds) = (ds.all (isRoad rds) && adj (fun a b => decide (a < b)) (ds.map num)) := rfl
theorem map_range_all (n : Nat) (f : Nat → Bool) : ((List.range n).map f).all id = (List.range n).all f := by rw [List.all_map]; rfl
theorem nums_map (ns : List Nat) : (ns.map fun j => D.int (j : Nat)).map num = ns.map fun (j : Nat) => (j : Int) := by rw [List.map_map]; rfl
theorem getD_map (ns : List Nat) {i : Nat} (h : i < ns.length) : (ns.map fun (j : Nat) => (j : Int)).getD i 0 = (ns[i] : Nat) := by
  rw [List.getD_eq_getElem?_getD, List.getElem?_map, List.getElem?_eq_getElem h]; rfl
def spJudge (C : Addr) (g : List D → D → Bool) : Sp := fun vs H Q _ => ∃ (h p : Addr) (n : Int) (rds : List D) (v : V) (d : D), vs = [.ref p, v] ∧ WebO C H h p n rds ∧ Rp H h v d ∧ ∀ H', Same H H' → Q (.bl (g rds d)) H'
/-- [r(a, b) for a, b in zip(t, t[1:])] over a tuple of numbers -/
theorem lc_next {K : PySem.W.Frag} {H H0 : Hp} {a b A : Addr} {ns : List Nat} {i1 i2 : Nat} {te : TE} {vs : List Nat} {σ : St} {Qd : Hp → Prop} (R : Int → Int → Bool) (s0 : Same H0 H) (hA : H A = none)
    (e1 : H a = some (.tup (ns.map fun j => V.int (j : Nat)))) (e2 : H b = some (.tup ((ns.map fun j => V.int (j : Nat)).drop 1))) (hz : ns.length ≤ 100000)
    (hw : ∀ x y, wipe (((wipe σ vs).set i1 (some x)).set i2 (some y)) vs = wipe σ vs)
    (hs : ∀ (i : Nat) (hi : i + 1 < ns.length) H' (Q : VK), Same H H' → (∀ H4, Same H' H4 → Q (.bl (R (ns[i]'(by omega) : Nat) (ns[i + 1] : Nat))) H4) → te (((wipe σ vs).set i1 (some (.int (ns[i]'(by omega) : Nat)))).set i2 (some (.int (ns[i + 1] : Nat)))) H' Q)
    (hd : ∀ H', Same H0 H' → SqL K H' A (((List.range (ns.length - 1)).map fun j => R ((ns.map fun (j : Nat) => (j : Int)).getD j 0) ((ns.map fun (j : Nat) => (j : Int)).getD (j + 1) 0)).map V.bl) → Qd H') :
    ∃ W : Nat → Nat → Hp → Prop, (∃ m, W 0 m (upd H A (.lst []))) ∧ ∀ i m H, W i m H →
      ((RZ.ItzT K a b).stop i H ∧ Qd H) ∨ ((RZ.ItzT K a b).go i H ∧ ∃ Nx : Hp → Prop, (∀ H', Nx H' → ∃ m', m' < m ∧ W (i + 1) m' H') ∧ ∀ x H', (RZ.ItzT K a b).yld i H x H' → (gTup K 2 (gCons (gName i1) (gCons (gName i2) gNil))) x (wipe σ vs) H' fun σ2 H2 => wipe σ2 vs = wipe σ vs ∧ tYes σ2 H2 fun b H3 =>
        if b = true then te σ2 H3 fun y H4 => ∃ acc, H4 A = some (.lst acc) ∧ acc.length < sizeLine ∧ Nx (upd H4 A (.lst (acc ++ [y]))) else Nx H3) := by
  refine lc_zipT (xs := ns.map fun j => V.int (j : Nat)) (ys := (ns.map fun j => V.int (j : Nat)).drop 1) (fun i H' => Same H (fun b => if b = A then none else H' b) ∧ H' A = some (.lst (((List.range i).map fun j => R ((ns.map fun (j : Nat) => (j : Int)).getD j 0) ((ns.map fun (j : Nat) => (j : Int)).getD (j + 1) 0)).map V.bl)))
    ⟨fun b o q => ?_, upd_same⟩ (fun i H' ⟨s, _⟩ => ?_) ?_ ?_
  · have n := ne_of_none q hA
    show (if b = A then none else upd H A _ b) = _
    rw [if_neg n, upd_ne n]; exact q
  · have q1 := s _ _ e1
    have q2 := s _ _ e2
    simp only [if_neg (ne_of_none e1 hA)] at q1
    simp only [if_neg (ne_of_none e2 hA)] at q2
    exact ⟨SqT.of q1, SqT.of q2⟩
  · intro i x y TT H' hx hy ⟨s, hacc⟩ hT
    have sm : Same H H' := fun b o q => by
      have r := s b o q
      simp only [if_neg (ne_of_none q hA)] at r
      exact r
    have hi : i + 1 < ns.length := by
      have := (List.getElem?_eq_some_iff.mp hy).1
      rw [List.length_drop, List.length_map] at this
      omega
    have ex : x = .int (ns[i]'(by omega) : Nat) := by
      rw [List.getElem?_map, List.getElem?_eq_getElem (by omega)] at hx
      exact (Option.some.inj hx).symm
    have ey : y = .int (ns[i + 1] : Nat) := by
      rw [List.getElem?_drop, List.getElem?_map, show 1 + i = i + 1 by omega, List.getElem?_eq_getElem hi] at hy
      exact (Option.some.inj hy).symm
    subst ex ey
    have sT : Same H' (upd H' TT (.tup [.int (ns[i]'(by omega) : Nat), .int (ns[i + 1] : Nat)])) := same_upd hT
    refine ⟨TT, _, rfl, SqT.of upd_same, rfl, _, _, rfl, _, _, rfl, rfl, hw _ _, tyes (hs i hi _ _ (sm.trans sT) fun H4 s4 => ⟨_, s4 _ _ (sT _ _ hacc), ?_, fun b o q => ?_, ?_⟩)⟩
    · rw [List.length_map, List.length_map, List.length_range]; exact line_lt (by omega)
    · have n := ne_of_none q hA
      show (if b = A then none else upd H4 A _ b) = _
      rw [if_neg n, upd_ne n]
      exact s4 _ _ (sT _ _ (sm _ _ q))
    · rw [upd_same, List.range_succ, List.map_append, List.map_append, List.map_cons, List.map_nil, List.map_cons, List.map_nil, getD_map ns (by omega), getD_map ns hi]
  · intro H' ⟨s, hacc⟩
    have sm : Same H H' := fun b o q => by
      have r := s b o q
      simp only [if_neg (ne_of_none q hA)] at r
      exact r
    have m : min (ns.map fun j => V.int (j : Nat)).length ((ns.map fun j => V.int (j : Nat)).drop 1).length = ns.length - 1 := by
      rw [List.length_drop, List.length_map]; omega
    rw [m] at hacc
    exact hd H' (s0.trans sm) (SqL.of hacc)
theorem ok_is_way (T : Tx K mg) : FnOk P w K mg base CX0 4 T.is_way.f T.is_way.fd ["web", "thing"] (spJudge T.Web.C isWay) := by
  refine T.is_way.F.ok sc_is_way (fun vs H Q E h => ?_) (fun cdv A outer s H vs Q E hr h => ?_)
  · obtain ⟨_, p, n, rds, v, d, rfl, _⟩ := h
    rfl
  · obtain ⟨h, p, n, rds, v, d, rfl, W, r, k⟩ := h
    refine ⟨_, (pss_one (ps_ret (pe_and (pe_callB call_isi (by rfl) T.n_isinstance (by decide +kernel) (pa_cons (pv 1) (pa_cons (pe_bltn (v := .ty "tuple") (by rfl) T.n_tuple (by decide +kernel) rfl) pa_nil))) (pe_and (pe_chain op_le op_le pe_int (pe_callB call_len_seq (by rfl) T.n_len (by decide +kernel) (pa_cons (pv 1) pa_nil)) (pe_glob (v := .int 8) rfl T.c_LONGEST_WAY.choose_spec ⟨_, rfl⟩)) (pe_and (pe_callB (cr_all rfl) (by rfl) T.n_all (by decide +kernel) (pa_cons (pe_lc (own := [("road", 2)]) (g := (gName 2)) (tt := tYes) rfl sc_is_way.nd (pi_tup (pv 1)) (blkOk_by (own := [("road", 2)]) (N := ["web", "thing", "road", "after"]) (sc := defScope s_is_way) (by decide +kernel)) (fun _ _ _ _ _ => (pg_name (i := 2) sc_is_way.nd rfl (Or.inl rfl))) (fun _ _ _ _ _ => pts_nil) (fun _ _ _ _ _ => (by exact (pe_call (ok_is_road T) (hr.mono (by decide)) rfl T.is_road.g T.is_road.F.kp T.is_road.b .nil pass0 (pa_cons (pv 0) (pa_cons (pv 2) pa_nil)))))) pa_nil)) (pe_one (pe_callB (cr_all rfl) (by rfl) T.n_all (by decide +kernel) (pa_cons (pe_lc (own := [("road", 2), ("after", 3)]) (g := (gTup K 2 (gCons (gName 2) (gCons (gName 3) gNil)))) (tt := tYes) (te := (tOp rEq (tOp (rIxT K) (tOp (rIxT K) (tFld K (tVar 0) "roads") (tVar 2)) (tC (.int 1))) (tOp (rIxT K) (tOp (rIxT K) (tFld K (tVar 0) "roads") (tVar 3)) (tC (.int 0))))) rfl sc_is_way.nd (RZ.pi_zipA (by rfl) T.n_zip (pa_cons (pv 1) (pa_cons (pe_slice sl_tupA (pv 1) (po_some pe_int) po_none) pa_nil))) (blkOk_by (own := [("road", 2), ("after", 3)]) (N := ["web", "thing", "road", "after"]) (sc := defScope s_is_way) (by decide +kernel)) (fun _ _ _ _ _ => (pg_tup (by rfl) (pgs_cons (pg_name (i := 2) sc_is_way.nd rfl (Or.inl rfl)) (pgs_cons (pg_name (i := 3) sc_is_way.nd rfl (Or.inl rfl)) pgs_nil)))) (fun _ _ _ _ _ => pts_nil) (fun _ _ _ _ _ => (by exact (pe_cmpR op_eq (pe_ix ix_tup (pe_ix ix_tup (pe_fld (pv 0) rfl) (pv 2) (fun _ _ => rfl)) pe_int (fun _ _ => rfl)) (pe_ix ix_tup (pe_ix ix_tup (pe_fld (pv 0) rfl) (pv 3) (fun _ _ => rfl)) pe_int (fun _ _ => rfl)) (nomark _))))) pa_nil)))))))), ?_⟩
    refine ⟨_, rfl, _, _, _, _, _, rfl, .ty "tuple", r.ty, kit_ty (kitT d), _, rfl, ?_⟩
    cases r with
    | @tup pa xs ds e z ra =>
      refine iteT ?_
      refine ⟨_, rfl, _, _, rfl, .inr (SqT.of e), _, _, rfl, rfl, _, rfl, ?_⟩
      rw [ra.len]
      by_cases h1 : 1 ≤ ds.length
      · rw [decide_eq_true (show (1 : Int) ≤ (ds.length : Int) by omega)]
        refine iteT ?_
        refine ⟨_, _, rfl, rfl, _, rfl, ?_⟩
        by_cases h2 : ds.length ≤ 8
        · rw [decide_eq_true (show (ds.length : Int) ≤ 8 by omega)]
          refine iteT ?_
          refine ⟨_, rfl, _, rfl, ⟨_, SqT.of e⟩, fun A hA => all_tup e z ra (isRoad rds) hA (fun x => rfl) (fun x d H' Q' _ s1 rp q => ?_) (fun H' sm sl => ?_)⟩
          · exact ⟨_, rfl, _, rfl, h, p, n, rds, _, _, rfl, W.same s1, rp, q _ (Same.refl _)⟩
          · refine ⟨_, _, rfl, sl, _, rfl, ?_⟩
            rw [map_all]
            cases e1 : ds.all (isRoad rds) with
            | false =>
              refine iteF ?_
              have := k H' sm
              rw [isWay_tup, e1, decide_eq_true h1, decide_eq_true h2] at this
              exact this
            | true =>
              refine iteT ?_
              obtain ⟨ns, rfl, rfl, hn⟩ := roads_in ra e1
              rw [List.length_map] at z
              refine ⟨_, rfl, _, rfl, _, rfl, ?_⟩
              delta tNoPart
              refine sl1 (sm _ _ e) fun b H1 s1 eb => ?_
              refine ⟨_, _, _, _, rfl, .inr ⟨SqT.of (s1 _ _ (sm _ _ e)), SqT.of eb, fun A2 hA2 => lc_next (fun a b => decide (en (dAt rds a) = bg (dAt rds b))) (sm.trans s1) hA2 (s1 _ _ (sm _ _ e)) eb z (fun x y => rfl) (fun i hi H2 Q' s2 q => ?_) (fun H2 s2 sl2 => ?_)⟩⟩
              · obtain ⟨dx, v1, v2, v3, v4, hp, r2⟩ := (W.same (sm.trans (s1.trans s2))).ex
                obtain ⟨pw, xw, rfl, ew, zw, rw_⟩ := tup_inv r2
                obtain ⟨q1, a1, b1, y1, y2, y3, y4⟩ := rw_.road W.all (hn _ (List.getElem_mem (show i < ns.length by omega)))
                obtain ⟨q2, a2, b2, w1, w2, w3, w4⟩ := rw_.road W.all (hn _ (List.getElem_mem hi))
                refine ⟨_, rfl, p, T.Web.C, dx, _, _, rfl, hp, T.Web.cl, T.Web.no _ (by simp), wF_r _ _ _ _, _, rfl, pw, xw, _, _, rfl, rfl, SqT.of ew, atI_nat y1, q1, _, 1, _, rfl, rfl, SqT.of y2, atI_nat (j := 1) rfl, ?_⟩
                refine ⟨_, rfl, p, T.Web.C, dx, _, _, rfl, hp, T.Web.cl, T.Web.no _ (by simp), wF_r _ _ _ _, _, rfl, pw, xw, _, _, rfl, rfl, SqT.of ew, atI_nat w1, q2, _, 0, _, rfl, rfl, SqT.of w2, atI_nat (j := 0) rfl, rfl, ?_⟩
                rw [int_eqd, ← y4, ← w3]
                exact q _ (Same.refl _)
              · refine ⟨_, _, rfl, sl2, ?_⟩
                rw [map_range_all]
                have := k H2 s2
                rw [isWay_tup, e1, decide_eq_true h1, decide_eq_true h2, Bool.true_and, Bool.true_and, Bool.true_and, nums_map] at this
                unfold adj at this
                rw [List.length_map] at this
                exact this
        · rw [decide_eq_false (show ¬ (ds.length : Int) ≤ 8 by omega)]
          refine iteF ?_
          have := k H (Same.refl _)
          rw [isWay_tup, decide_eq_true h1, decide_eq_false h2] at this
          exact this
      · rw [decide_eq_false (show ¬ (1 : Int) ≤ (ds.length : Int) by omega)]
        refine iteF ⟨_, rfl, iteF ?_⟩
        have := k H (Same.refl _)
        rw [isWay_tup, decide_eq_false h1] at this
        exact this
    | _ => exact iteF (k H (Same.refl _))
end
end Hc


set_option Elab.async false
set_option linter.all false
set_option maxRecDepth 100000
set_option maxHeartbeats 1000000
set_option autoImplicit false
namespace Hc
open PySem L2
/-- a drawn web as the law holds it -/
structure WebL (H : Hp) (h : Addr) (v : V) (n : Int) (rds : List D) : Prop where
  ex : ∃ rm tm, Rp H h v (.tup [.int n, .tup rds, rm, tm])
  all : rds.all (isBE n) = true
  l1 : 1 ≤ rds.length
  l2 : rds.length ≤ 24
theorem WebL.same {H H' : Hp} {h : Addr} {v : V} {n : Int} {rds : List D} (w : WebL H h v n rds) (s : Same H H') : WebL H' h v n rds := by
  obtain ⟨⟨rm, tm, r⟩, a, b, c⟩ := w
  exact ⟨⟨rm, tm, r.same s⟩, a, b, c⟩
theorem WebL.but {H H' : Hp} {h c : Addr} {v : V} {n : Int} {rds : List D} (w : WebL H h v n rds) (k : But h H H') (hA : HandAt H h c) : WebL H' h v n rds := by
  obtain ⟨⟨rm, tm, r⟩, a, b, d⟩ := w
  exact ⟨⟨rm, tm, r.monoB k hA⟩, a, b, d⟩
theorem WebL.inv {H : Hp} {h : Addr} {v : V} {n : Int} {rds : List D} (w : WebL H h v n rds) : ∃ p q x3 x4 xs, v = .ref p ∧ H p = some (.tup [.int n, .ref q, x3, x4]) ∧ H q = some (.tup xs) ∧ RpA H h xs rds := by
  obtain ⟨⟨rm, tm, r⟩, _⟩ := w
  obtain ⟨p, ys, rfl, e, _, ra⟩ := tup_inv r
  cases ra with
  | cons r1 ra =>
  cases ra with
  | cons r2 ra =>
  cases ra with
  | cons r3 ra =>
  cases ra with
  | cons r4 ra =>
  cases ra
  cases r1
  obtain ⟨q, xs, rfl, e2, _, r2'⟩ := tup_inv r2
  exact ⟨p, q, _, _, xs, rfl, e, e2, r2'⟩
/-- a tuple of natural numbers -/
def nD (ns : List Nat) : D := .tup (ns.map fun j => .int (j : Nat))
theorem nD_inv {H : Hp} {h : Addr} {v : V} {ns : List Nat} (r : Rp H h v (nD ns)) : ∃ a, v = .ref a ∧ H a = some (.tup (ns.map fun j => V.int (j : Nat))) ∧ ns.length ≤ 100000 := by
  obtain ⟨a, xs, rfl, e, z, ra⟩ := tup_inv r
  have key : ∀ {xs : List V} {ns : List Nat}, RpA H h xs (ns.map fun j => D.int (j : Nat)) → xs = ns.map fun j => V.int (j : Nat) := by
    intro xs ns
    induction ns generalizing xs with
    | nil => intro r; cases r; rfl
    | cons n ns ih =>
      intro r
      cases r with
      | cons r1 r2 => cases r1; rw [ih r2]; rfl
  have := key ra
  subst this
  rw [List.length_map] at z
  exact ⟨a, rfl, e, z⟩
theorem nD_mk {H : Hp} {h : Addr} {a : Addr} {ns : List Nat} (e : H a = some (.tup (ns.map fun j => V.int (j : Nat)))) (z : ns.length ≤ 100000) : Rp H h (.ref a) (nD ns) := by
  refine .tup e (by rw [List.length_map]; exact z) ?_
  clear e z
  induction ns with
  | nil => exact .nil
  | cons n ns ih => exact .cons (.int _) ih
section
variable {P : Program} {w : World} {K : PySem.W.Frag} {mg : Str → Option Value} {base : Heap}
def spNextL : Sp := fun vs H Q _ => ∃ (h : Addr) (v : V) (n : Int) (rds : List D) (j : Nat), vs = [v, .int j] ∧ WebL H h v n rds ∧ j < rds.length ∧
  ∀ a H', Same H H' → H a = none → H' a = some (.lst ((nextL rds j).map fun j => V.int (j : Nat))) → Q (.ref a) H'
theorem ok__law_next (T : Tx K mg) : FnOk P w K mg base CX0 1 T._law_next.f T._law_next.fd ["_law_web_here", "_law_road"] spNextL := by
  refine T._law_next.F.ok sc_law_next (fun vs H Q E h => ?_) (fun cdv A outer s H vs Q E hr h => ?_)
  · obtain ⟨_, v, n, rds, j, rfl, _⟩ := h
    rfl
  · obtain ⟨h, v, n, rds, j, rfl, W, hj, k⟩ := h
    obtain ⟨p, q, x3, x4, xs, rfl, e1, e2, ra⟩ := W.inv
    have hl := ra.len
    refine ⟨_, (pss_one (ps_ret (pe_lc (own := [("_law_other", 2)]) (g := (gName 2))  (tt := (tTest (tOp rEq (tOp (rIxT K) (tOp (rIxT K) (tOp (rIxT K) (tVar 0) (tC (.int 1))) (tVar 2)) (tC (.int 0))) (tOp (rIxT K) (tOp (rIxT K) (tOp (rIxT K) (tVar 0) (tC (.int 1))) (tVar 1)) (tC (.int 1)))))) rfl sc_law_next.nd (pi_range1 (by rfl) T.n_range (pa_cons (pe_callB call_len_seq (by rfl) T.n_len (by decide +kernel) (pa_cons (pe_ix ix_tup (pv 0) pe_int (fun _ _ => rfl)) pa_nil)) pa_nil)) (blkOk_by (own := [("_law_other", 2)]) (N := ["_law_web_here", "_law_road", "_law_other"]) (sc := defScope s_law_next) (by decide +kernel)) (fun _ _ _ _ _ => (pg_name (i := 2) sc_law_next.nd rfl (Or.inl rfl))) (fun _ _ _ _ _ => (pts_one (by exact (pt_cmpR op_eq (pe_ix ix_tup (pe_ix ix_tup (pe_ix ix_tup (pv 0) pe_int (fun _ _ => rfl)) (pv 2) (fun _ _ => rfl)) pe_int (fun _ _ => rfl)) (pe_ix ix_tup (pe_ix ix_tup (pe_ix ix_tup (pv 0) pe_int (fun _ _ => rfl)) (pv 1) (fun _ _ => rfl)) pe_int (fun _ _ => rfl)) (nomark _))))) (fun _ _ _ _ _ => (by exact (pv 2)))))), ?_⟩
    have l2 := W.l2
    refine ⟨_, rfl, _, _, 1, _, rfl, rfl, SqT.of e1, atI_nat (j := 1) rfl, q, xs, rfl, .inr (SqT.of e2), (xs.length : Int), rfl, by omega, by omega, fun A hA => ?_⟩
    obtain ⟨qj, aj, bj, y1, y2, y3, y4⟩ := ra.road W.all hj
    have en1 : en (dAt rds (j : Nat)) = bj := by unfold dAt; rw [Int.toNat_natCast]; exact y4
    refine lc_range (lo := 0) (n := (xs.length : Int).toNat) (fun i H' => (∀ b o, H b = some o → H' b = some o) ∧ H' A = some (.lst (((List.range i).filter fun j' => decide (bg (rds.getD j' .non) = en (dAt rds j))).map fun j' => V.int (j' : Nat))))
      ⟨same_upd hA, upd_same⟩ ?_ ?_
    · rintro i H' hi ⟨s, hacc⟩
      have hi' : i < rds.length := by omega
      obtain ⟨q', a', b', z1, z2, z3, z4⟩ := ra.road W.all hi'
      refine ⟨rfl, _, rfl, _, _, 1, _, rfl, rfl, SqT.of (s _ _ e1), atI_nat (j := 1) rfl, _, rfl, q, xs, _, _, rfl, rfl, SqT.of (s _ _ e2), at_of (by omega) z1, q', _, 0, _, rfl, rfl, SqT.of (s _ _ z2), atI_nat (j := 0) rfl, ?_⟩
      refine ⟨_, rfl, _, _, 1, _, rfl, rfl, SqT.of (s _ _ e1), atI_nat (j := 1) rfl, _, rfl, q, xs, _, _, rfl, rfl, SqT.of (s _ _ e2), atI_nat y1, qj, _, 1, _, rfl, rfl, SqT.of (s _ _ y2), atI_nat (j := 1) rfl, rfl, _, rfl, ?_⟩
      rw [int_eqd]
      have step : ∀ (c : Bool), decide (bg (rds.getD i .non) = en (dAt rds j)) = c → (List.range (i + 1)).filter (fun j' => decide (bg (rds.getD j' .non) = en (dAt rds j))) = (List.range i).filter (fun j' => decide (bg (rds.getD j' .non) = en (dAt rds j))) ++ (if c = true then [i] else []) := fun c hc => by
        rw [List.range_succ, List.filter_append]
        congr 1
        rw [List.filter_cons, hc]
        rfl
      by_cases g : a' = bj
      · rw [decide_eq_true g]
        have st := step true (by rw [z3, en1]; exact decide_eq_true g)
        refine iteT ⟨_, rfl, _, hacc, ?_, fun b o q => ?_, ?_⟩
        · rw [List.length_map]
          have := List.length_filter_le (fun j' => decide (bg (rds.getD j' .non) = en (dAt rds j))) (List.range i)
          rw [List.length_range] at this
          exact line_lt (by omega)
        · rw [upd_ne (ne_of_none q hA)]
          exact s _ _ q
        · rw [upd_same, st, List.map_append, if_pos rfl, List.map_cons, List.map_nil, Int.zero_add]
      · rw [decide_eq_false g]
        have st := step false (by rw [z3, en1]; exact decide_eq_false g)
        refine iteF ⟨s, ?_⟩
        rw [hacc, st, if_neg (by decide), List.append_nil]
    · rintro H' ⟨s, hacc⟩
      have : (xs.length : Int).toNat = rds.length := by omega
      rw [this] at hacc
      exact k A H' s hA hacc
end
end Hc


set_option Elab.async false
set_option linter.all false
set_option maxRecDepth 100000
set_option maxHeartbeats 1000000
set_option autoImplicit false
local macro_rules | `(tactic| walk_at "gen") => `(tactic| (generalize hE : L2.upd _ _ _ = H2; have q := Hc.new_facts (by assumption) (by assumption) hE; clear hE; obtain ⟨s2, e2, n2, n3, hA2⟩ := q))
namespace Hc
open PySem L2
/-- each road begins where the one ahead ends -/
def wayOk (rds : List D) (ns : List Nat) : Prop := ∀ i, i + 1 < ns.length → en (dAt rds ((ns.getD i 0 : Nat) : Int)) = bg (dAt rds ((ns.getD (i + 1) 0 : Nat) : Int))
theorem wayOk_one (rds : List D) (m : Nat) : wayOk rds [m] := fun i hi => by simp at hi
theorem wayOk_app {rds : List D} {ns : List Nat} {j x : Nat} (h : wayOk rds (ns ++ [j])) (e : en (dAt rds (j : Nat)) = bg (dAt rds (x : Nat))) : wayOk rds (ns ++ [j] ++ [x]) := fun i hi => by
  rw [List.length_append, List.length_append] at hi
  simp only [List.length_singleton] at hi
  by_cases q : i + 1 < (ns ++ [j]).length
  · have := h i q
    rw [List.getD_eq_getElem?_getD, List.getD_eq_getElem?_getD, List.getElem?_append_left (by omega), List.getElem?_append_left q]
    rw [List.getD_eq_getElem?_getD, List.getD_eq_getElem?_getD] at this
    exact this
  · rw [List.length_append, List.length_singleton] at q
    have ei : i = ns.length := by omega
    subst ei
    have e1 : (ns ++ [j] ++ [x]).getD ns.length 0 = j := by
      rw [List.getD_eq_getElem?_getD, List.append_assoc, List.getElem?_append_right (Nat.le_refl _), Nat.sub_self]; rfl
    have e2 : (ns ++ [j] ++ [x]).getD (ns.length + 1) 0 = x := by
      rw [List.getD_eq_getElem?_getD, List.getElem?_append_right (by simp), List.length_append, List.length_singleton, Nat.sub_self]; rfl
    rw [e1, e2]
    exact e
theorem way_ok {rds : List D} {ns : List Nat} (h0 : 1 ≤ ns.length) (h8 : ns.length ≤ 8) (h1 : ∀ j ∈ ns, j < rds.length) (h2 : wayOk rds ns) : isWay rds (nD ns) = true := by
  show isWay rds (.tup (ns.map fun j => .int (j : Nat))) = true
  rw [isWay_tup, List.length_map, decide_eq_true h0, decide_eq_true h8, Bool.true_and, Bool.true_and, Bool.and_eq_true]
  constructor
  · rw [List.all_eq_true]
    intro d hd
    obtain ⟨j, hj, rfl⟩ := List.mem_map.mp hd
    have := h1 j hj
    exact btw_of (by omega) (by omega)
  · rw [nums_map]
    unfold adj
    rw [List.all_eq_true, List.length_map]
    intro j hj
    have hj := List.mem_range.mp hj
    have a1 : j < ns.length := by omega
    have a2 : j + 1 < ns.length := by omega
    rw [getD_map ns a1, getD_map ns a2]
    have := h2 j a2
    rw [List.getD_eq_getElem?_getD, List.getElem?_eq_getElem a1, List.getD_eq_getElem?_getD, List.getElem?_eq_getElem a2] at this
    exact decide_eq_true this
section
variable {P : Program} {w : World} {K : PySem.W.Frag} {mg : Str → Option Value} {base : Heap}
def spWayL : Sp := fun vs H Q _ => ∃ (h c : Addr) (v : V) (n : Int) (rds : List D) (mo : Int), vs = [.ref h, v, .int mo] ∧ HandAt H h c ∧ WebL H h v n rds ∧ 1 ≤ mo ∧ mo ≤ 1000 ∧
  ∀ v' ns H', HandAt H' h c → But h H H' → Rp H' h v' (nD ns) → 1 ≤ ns.length → (ns.length : Int) ≤ mo → (∀ j ∈ ns, j < rds.length) → wayOk rds ns → Q v' H'
theorem ok__law_way (T : Tx K mg) : FnOk P w K mg base CX0 2 T._law_way.f T._law_way.fd ["_law_hand_here", "_law_web_here", "_law_most"] spWayL := by
  refine T._law_way.F.ok sc_law_way (fun vs H Q E h => ?_) (fun cdv A outer s H vs Q E hr h => ?_)
  · obtain ⟨h, c, v, n, rds, mo, rfl, _⟩ := h
    rfl
  · obtain ⟨h, c, v, n, rds, mo, rfl, hA, W, mo0, mo1, k⟩ := h
    obtain ⟨p, q, x3, x4, xs, rfl, e1, e2, ra⟩ := W.inv
    have hl := ra.len
    have l1 := W.l1
    have l2 := W.l2
    refine ⟨_, (pss_cons (ps_set (i := 3) sc_law_way.nd rfl (Or.inl rfl) (pe_tup (pa_cons (pe_call (ok__law_draw T) (hr.mono (by decide)) rfl T._law_draw.g T._law_draw.F.kp T._law_draw.b .nil pass0 (pa_cons (pv 0) (pa_cons (pe_callB call_len_seq (by rfl) T.n_len (by decide +kernel) (pa_cons (pe_ix ix_tup (pv 1) pe_int (fun _ _ => rfl)) pa_nil)) pa_nil))) pa_nil)))
      (pss_cons (ps_for PassesOwn.never rfl (pi_range1 (by rfl) T.n_range (pa_cons (pe_call (ok__law_draw T) (hr.mono (by decide)) rfl T._law_draw.g T._law_draw.F.kp T._law_draw.b .nil pass0 (pa_cons (pv 0) (pa_cons (pv 2) pa_nil))) pa_nil)) (pg_name (i := 4) sc_law_way.nd rfl (Or.inl rfl))
      (pss_cons (ps_set (i := 5) sc_law_way.nd rfl (Or.inl rfl) (pe_call (ok__law_next T) (hr.mono (by decide)) rfl T._law_next.g T._law_next.F.kp T._law_next.b .nil pass0 (pa_cons (pv 1) (pa_cons (pe_ix ix_tup (pv 3) (pe_un un_neg pe_int) (fun _ _ => rfl)) pa_nil))))
      (pss_one (ps_if (pt_cmpR op_gt (pe_callB call_len_seq (by rfl) T.n_len (by decide +kernel) (pa_cons (pv 5) pa_nil)) pe_int (nomark _))
      (pss_one (ps_set (i := 3) sc_law_way.nd rfl (Or.inl rfl) (pe_op op_catA (pv 3) (pe_tup (pa_cons (pe_ix ix_list (pv 5) (pe_call (ok__law_draw T) (hr.mono (by decide)) rfl T._law_draw.g T._law_draw.F.kp T._law_draw.b .nil pass0 (pa_cons (pv 0) (pa_cons (pe_callB call_len_seq (by rfl) T.n_len (by decide +kernel) (pa_cons (pv 5) pa_nil)) pa_nil))) (fun _ _ => rfl)) pa_nil)))))
      pss_nil))))
      (pss_one (ps_ret (pv 3))))), ?_⟩
    refine ⟨_, rfl, _, rfl, _, _, 1, _, rfl, rfl, SqT.of e1, atI_nat (j := 1) rfl, q, xs, rfl, .inr (SqT.of e2), h, c, _, rfl, hA, by omega, by omega, fun m H1 m0 m1 hA1 b1 => ⟨by show 1 ≤ sizeLine; decide, fun p1 hp1 => ?_⟩⟩
    have W1 := W.but b1 hA
    walk_at "gen"
    rename_i H2 s2 e2' n2 _ hA2
    have W2 := W1.same s2
    obtain ⟨m', rfl⟩ := Int.eq_ofNat_of_zero_le m0
    refine ⟨_, rfl, _, rfl, h, c, mo, rfl, hA2, by omega, by omega, fun kk H3 k0 k1 hA3 b3 => ⟨kk, rfl, by omega, by omega, for_range (lo := 0) (n := kk.toNat) (fun i σ' H' => ∃ (wv : V) (ns : List Nat) (tv bv : Option V),
      σ' = [some (.ref h), some (.ref p), some (.int mo), some wv, tv, bv] ∧ HandAt H' h c ∧ But h H H' ∧ Rp H' h wv (nD ns) ∧ 1 ≤ ns.length ∧ ns.length ≤ i + 1 ∧ (∀ j ∈ ns, j < rds.length) ∧ WebL H' h (.ref p) n rds ∧ wayOk rds ns)
      ⟨.ref p1, [m'], none, none, rfl, hA3, (b1.trans (But.of s2)).trans b3, nD_mk (b3 _ _ e2' n2) (by simp), by simp, by simp, fun j hj => by rw [List.mem_singleton] at hj; omega, W2.but b3 hA2, wayOk_one rds m'⟩ ?_ ?_⟩⟩
    · rintro i σ' H4 hi ⟨wv, ns, tv, bv, rfl, hA4, b4, r4, n1, n2', hn, W4, wo⟩
      obtain ⟨wa, rfl, ew, zw⟩ := nD_inv r4
      rcases List.eq_nil_or_concat ns with e | ⟨ns', jl, e⟩
      · subst e; simp at n1
      rw [List.concat_eq_append] at e
      have hjl : jl < rds.length := hn jl (by rw [e]; simp)
      have ela : atI (ns.map fun j => V.int (j : Nat)) (-1) = some (.int (jl : Nat)) := by
        rw [e, List.map_append]
        exact atI_last _ _
      refine ⟨_, rfl, _, rfl, _, rfl, wa, _, _, _, rfl, rfl, SqT.of ew, ela, h, .ref p, n, rds, jl, rfl, W4, hjl, fun b H5 s5 fb e5 => ?_⟩
      have hA5 := hA4.mono s5
      have nb := (hA4.ne fb).1
      have W5 := W4.same s5
      have r5 := r4.same s5
      refine ⟨_, rfl, b, _, rfl, .inl (SqL.of e5), _, _, rfl, rfl, _, rfl, ?_⟩
      have zl := List.length_filter_le (fun j' => decide (bg (rds.getD j' .non) = en (dAt rds jl))) (List.range rds.length)
      rw [List.length_range] at zl
      have zl' : (nextL rds jl).length ≤ rds.length := zl
      rw [List.length_map]
      by_cases g : (0 : Int) < ((nextL rds jl).length : Int)
      · rw [decide_eq_true g]
        refine iteT ⟨_, rfl, _, rfl, _, rfl, _, rfl, b, _, rfl, .inl (SqL.of e5), h, c, _, rfl, hA5, by rw [List.length_map]; exact g, by rw [List.length_map]; omega, fun x H6 x0 x1 hA6 b6 => ?_⟩
        rw [List.length_map] at x1
        obtain ⟨x', rfl⟩ := Int.eq_ofNat_of_zero_le x0
        have hx' : x' < (nextL rds jl).length := by omega
        have ex : ((nextL rds jl).map fun j => V.int (j : Nat))[x']? = some (.int ((nextL rds jl)[x'] : Nat)) := by rw [List.getElem?_map, List.getElem?_eq_getElem hx']; rfl
        have hin : (nextL rds jl)[x'] < rds.length := by
          have := List.getElem_mem hx'
          have := (List.mem_filter.mp this).1
          exact List.mem_range.mp this
        refine ⟨b, _, _, _, rfl, rfl, SqL.of (b6 _ _ e5 nb), atI_nat ex, by show 1 ≤ sizeLine; decide, fun p7 hp7 => ?_⟩
        have r6 := r5.monoB b6 hA5
        have W6 := W5.but b6 hA5
        walk_at "gen"
        rename_i H7 s7 e7 n7 _ hA7
        refine catA_rp (es := [.int ((nextL rds jl)[x'] : Nat)]) hA7 (r6.same s7) (.tup e7 (by simp) (.cons (.int _) .nil)) (by rw [List.length_map]; simp; omega) fun v8 H8 s8 hA8 r8 => ?_
        refine ⟨v8, ns ++ [(nextL rds jl)[x']], _, _, rfl, hA8, b4.trans ((But.of s5).trans (b6.trans (But.of (s7.trans s8)))), ?_, ?_, ?_, ?_, (W6.same s7).same s8, ?_⟩
        · unfold nD
          rw [List.map_append]
          exact r8
        · rw [List.length_append]; omega
        · rw [List.length_append, List.length_singleton]; omega
        · intro j hj
          rcases List.mem_append.mp hj with hj | hj
          · exact hn j hj
          · rw [List.mem_singleton] at hj
            subst hj
            exact hin
        · have g := of_decide_eq_true (List.mem_filter.mp (List.getElem_mem hx')).2
          rw [e] at wo ⊢
          refine wayOk_app wo ?_
          rw [← g]
          unfold dAt
          rw [Int.toNat_natCast]
      · rw [decide_eq_false g]
        exact iteF ⟨_, ns, _, _, rfl, hA5, b4.trans (But.of s5), r5, n1, by omega, hn, W5, wo⟩
    · rintro σ' H4 ⟨wv, ns, tv, bv, rfl, hA4, b4, r4, n1, n2', hn, W4, wo⟩
      exact ⟨_, rfl, k wv ns H4 hA4 b4 r4 n1 (by omega) hn wo⟩
end
end Hc


set_option Elab.async false
set_option linter.all false
set_option maxRecDepth 100000
set_option maxHeartbeats 1000000
set_option autoImplicit false
namespace Hc
open PySem L2
/-- what is no list stays -/
def NL (H H' : Hp) : Prop := ∀ b o, H b = some o → (∀ xs, o ≠ .lst xs) → H' b = some o
theorem NL.refl (H : Hp) : NL H H := fun _ _ e _ => e
theorem NL.trans {H H1 H2 : Hp} (a : NL H H1) (b : NL H1 H2) : NL H H2 := fun c o e n => b c o (a c o e n) n
theorem NL.of {H H' : Hp} (s : Same H H') : NL H H' := fun b o e _ => s b o e
theorem NL.upd {H : Hp} {p : Addr} {o : HO} {xs : List V} (e : H p = some (.lst xs)) : NL H (upd H p o) := fun b u q n => by
  rw [upd_ne (fun z => by subst z; rw [e] at q; exact n xs (Option.some.inj q).symm)]
  exact q
theorem NL.tup {H H' : Hp} (k : NL H H') {b : Addr} {xs : List V} (e : H b = some (.tup xs)) : H' b = some (.tup xs) := k _ _ e (fun _ z => by cases z)
mutual
def noL : D → Bool
  | .lst => false
  | .tup ds => noLs ds
  | _ => true
def noLs : List D → Bool
  | [] => true
  | d :: ds => noL d && noLs ds
end
section
variable {H H' : Hp} {h : Addr}
mutual
theorem Rp.nl (k : NL H H') : ∀ {v : V} {d : D}, Rp H h v d → noL d = true → Rp H' h v d
  | _, _, .non, _ => .non
  | _, _, .bl b, _ => .bl b
  | _, _, .int i, _ => .int i
  | _, _, .str x, _ => .str x
  | _, _, .tup e z r, n => .tup (k.tup e) z (RpA.nl k r n)
  | _, _, .lst _ _, n => by cases n
  | _, _, .dct e, _ => .dct (k _ _ e (fun _ z => by cases z))
theorem RpA.nl (k : NL H H') : ∀ {vs : List V} {ds : List D}, RpA H h vs ds → noLs ds = true → RpA H' h vs ds
  | _, _, .nil, _ => .nil
  | _, _, .cons a r, n => by
    have n : (noL _ && noLs _) = true := n
    rw [Bool.and_eq_true] at n
    exact .cons (Rp.nl k a n.1) (RpA.nl k r n.2)
end
end
theorem noL_be {n : Int} : ∀ {rds : List D}, rds.all (isBE n) = true → noLs rds = true
  | [], _ => rfl
  | d :: ds, e => by
    rw [List.all_cons, Bool.and_eq_true] at e
    obtain ⟨a, b, rfl, _⟩ := be_full e.1
    show (noL _ && noLs ds) = true
    rw [noL_be e.2]; rfl
theorem noL_nat : ∀ ns : List Nat, noLs (ns.map fun j => D.int (j : Nat)) = true
  | [] => rfl
  | n :: ns => by
    show (noL _ && noLs _) = true
    rw [noL_nat ns]; rfl
theorem noL_nD (ns : List Nat) : noL (nD ns) = true := noL_nat ns
theorem noL_int : ∀ ns : List Int, noLs (ns.map D.int) = true
  | [] => rfl
  | n :: ns => by
    show (noL _ && noLs _) = true
    rw [noL_int ns]; rfl
theorem But.nl {h : Addr} {H H' : Hp} (k : But h H H') (l : IsLst H h) : NL H H' := fun b o e n => k b o e (fun z => by
  subst z
  obtain ⟨xs, q⟩ := l
  rw [e] at q
  exact n xs (Option.some.inj q))
theorem btw_inv {m lo hi : Int} {d : D} (e : areBtw m lo hi d = true) : ∃ ns : List Int, d = .tup (ns.map D.int) ∧ (ns.length : Int) = m ∧ ∀ x ∈ ns, lo ≤ x ∧ x ≤ hi := by
  cases d with
  | tup ds =>
    rw [areBtw_tup, Bool.and_eq_true] at e
    obtain ⟨h1, h2⟩ := e
    have h1 := of_decide_eq_true h1
    have key : ∀ ds : List D, ds.all (isBtw lo hi) = true → ∃ ns : List Int, ds = ns.map D.int ∧ ∀ x ∈ ns, lo ≤ x ∧ x ≤ hi := by
      intro ds
      induction ds with
      | nil => exact fun _ => ⟨[], rfl, fun _ z => nomatch z⟩
      | cons d ds ih =>
        intro h
        rw [List.all_cons, Bool.and_eq_true] at h
        obtain ⟨n, rfl⟩ := btw_shape h.1
        obtain ⟨ns, rfl, hn⟩ := ih h.2
        have e1 : (decide (lo ≤ n) && decide (n ≤ hi)) = true := h.1
        rw [Bool.and_eq_true] at e1
        refine ⟨n :: ns, rfl, fun x hx => ?_⟩
        rcases List.mem_cons.mp hx with rfl | hx
        · exact ⟨of_decide_eq_true e1.1, of_decide_eq_true e1.2⟩
        · exact hn x hx
    obtain ⟨ns, rfl, hn⟩ := key ds h2
    exact ⟨ns, rfl, by rw [List.length_map] at h1; exact h1, hn⟩
  | _ => exact Bool.noConfusion e
/-- a drawn web, whole -/
structure WebF (H : Hp) (h : Addr) (v : V) (n : Int) (rds : List D) (rm tm : List Int) : Prop where
  r : Rp H h v (.tup [.int n, .tup rds, .tup (rm.map D.int), .tup (tm.map D.int)])
  n0 : 2 ≤ n
  n1 : n ≤ 12
  all : rds.all (isBE n) = true
  l1 : 1 ≤ rds.length
  l2 : rds.length ≤ 24
  lr : rm.length = rds.length
  lt : tm.length = rds.length
  br : ∀ x ∈ rm, 1 ≤ x ∧ x ≤ 3
  bt : ∀ x ∈ tm, 1 ≤ x ∧ x ≤ 3
theorem WebF.nl {H H' : Hp} {h : Addr} {v : V} {n : Int} {rds : List D} {rm tm : List Int} (x : WebF H h v n rds rm tm) (k : NL H H') : WebF H' h v n rds rm tm :=
  ⟨x.r.nl k (by simp only [noL, noLs, noL_be x.all, noL_int, Bool.and_true]), x.n0, x.n1, x.all, x.l1, x.l2, x.lr, x.lt, x.br, x.bt⟩
theorem WebF.w {H : Hp} {h : Addr} {v : V} {n : Int} {rds : List D} {rm tm : List Int} (x : WebF H h v n rds rm tm) : WebL H h v n rds := ⟨⟨_, _, x.r⟩, x.all, x.l1, x.l2⟩
theorem webF_of {H : Hp} {h : Addr} {v : V} {d : D} {towns most : Int} (r : Rp H h v d) (w : WebD towns most d) (ht : towns ≤ 12) (hm : most ≤ 24) : ∃ n rds rm tm, WebF H h v n rds rm tm ∧ (rds.length : Int) ≤ most := by
  obtain ⟨n, ds, rm, tm, rfl, h1, h2, h3, h4, h5, h6, h7⟩ := w.ex
  obtain ⟨rs, rfl, r1, r2⟩ := btw_inv h6
  obtain ⟨ts, rfl, t1, t2⟩ := btw_inv h7
  exact ⟨n, ds, rs, ts, ⟨r, h1, by omega, h5, h3, by omega, by omega, by omega, r2, t2⟩, h4⟩
/-! ### letters and their hours -/
abbrev Lt := List Nat × Int
/-- the tick from which on the next place may be passed -/
def nextAt (tm : List Int) (l : Lt) (r : List Int) : Int := if r.length = 0 then l.2 else r.getD (r.length - 1) 0 + tm.getD (l.1.getD (r.length - 1) 0) 0
/-- no hour is earlier than may be -/
def EarlyOk (tm : List Int) (l : Lt) (r : List Int) : Prop := ∀ j, j < r.length → nextAt tm l (r.take j) ≤ r.getD j 0
/-- what is passed: roads and hours -/
def es : List Lt → List (List Int) → List (Nat × Int)
  | l :: ls, r :: rs => l.1.zip r ++ es ls rs
  | _, _ => []
def tot (rows : List (List Int)) : Nat := (rows.map List.length).sum
theorem es_cons (l : Lt) (ls : List Lt) (r : List Int) (rs : List (List Int)) : es (l :: ls) (r :: rs) = l.1.zip r ++ es ls rs := rfl
theorem zip_snoc : ∀ {w : List Nat} {r : List Int} {t : Int} (h : r.length < w.length), w.zip (r ++ [t]) = w.zip r ++ [(w.getD r.length 0, t)]
  | [], _, _, h => by simp at h
  | x :: w, [], t, _ => by simp
  | x :: w, y :: r, t, h => by
    have := zip_snoc (w := w) (r := r) (t := t) (by simp at h; omega)
    show (x, y) :: w.zip (r ++ [t]) = _
    rw [this]
    show _ = (x, y) :: w.zip r ++ [((x :: w).getD (r.length + 1) 0, t)]
    rw [List.getD_cons_succ]; rfl
theorem count_set {x : Nat × Int} {t : Int} : ∀ {ls : List Lt} {rows : List (List Int)} {k : Nat} {l : Lt} {r : List Int}, ls[k]? = some l → rows[k]? = some r → r.length < l.1.length →
    (es ls (rows.set k (r ++ [t]))).count x = (es ls rows).count x + if (l.1.getD r.length 0, t) = x then 1 else 0
  | [], _, _, _, _, e, _, _ => by simp at e
  | _ :: _, [], _, _, _, _, e, _ => by simp at e
  | a :: ls, b :: rows, 0, l, r, e1, e2, h => by
    have e1 : a = l := by simpa using e1
    have e2 : b = r := by simpa using e2
    subst e1 e2
    rw [List.set_cons_zero, es_cons, es_cons, zip_snoc h, List.count_append, List.count_append, List.count_append, List.count_singleton]
    by_cases q : (a.1.getD b.length 0, t) = x
    · rw [if_pos q, if_pos (by simpa using q)]; omega
    · rw [if_neg q, if_neg (by simpa using q)]; omega
  | a :: ls, b :: rows, k + 1, l, r, e1, e2, h => by
    have := count_set (x := x) (t := t) (ls := ls) (rows := rows) (k := k) (l := l) (r := r) (by simpa using e1) (by simpa using e2) h
    rw [List.set_cons_succ, es_cons, es_cons, List.count_append, List.count_append, this]; omega
theorem tot_set {t : Int} : ∀ {rows : List (List Int)} {k : Nat} {r : List Int}, rows[k]? = some r → tot (rows.set k (r ++ [t])) = tot rows + 1
  | [], _, _, e => by simp at e
  | b :: rows, 0, r, e => by
    have e : b = r := by simpa using e
    subst e
    rw [List.set_cons_zero]
    show ((b ++ [t]).length + (rows.map List.length).sum) = (b.length + (rows.map List.length).sum) + 1
    rw [List.length_append, List.length_singleton]; omega
  | b :: rows, k + 1, r, e => by
    have := tot_set (t := t) (rows := rows) (k := k) (r := r) (by simpa using e)
    rw [List.set_cons_succ]
    unfold tot at this ⊢
    rw [List.map_cons, List.map_cons, List.sum_cons, List.sum_cons, this]; omega
/-- rows so far -/
structure RowsOk (tm : List Int) (ls : List Lt) (rows : List (List Int)) : Prop where
  len : rows.length = ls.length
  one : ∀ (k : Nat) (l : Lt) (r : List Int), ls[k]? = some l → rows[k]? = some r → r.length ≤ l.1.length ∧ EarlyOk tm l r
def wTot (ls : List Lt) : Nat := (ls.map fun l => l.1.length).sum
theorem tot_le : ∀ {ls : List Lt} {rows : List (List Int)}, rows.length = ls.length → (∀ (k : Nat) (l : Lt) (r : List Int), ls[k]? = some l → rows[k]? = some r → r.length ≤ l.1.length) → tot rows ≤ wTot ls
  | [], [], _, _ => Nat.le_refl _
  | [], _ :: _, h, _ => by simp at h
  | _ :: _, [], h, _ => by simp at h
  | l :: ls, r :: rows, h, q => by
    have h1 := q 0 l r rfl rfl
    have h2 := tot_le (ls := ls) (rows := rows) (by simpa using h) fun k l' r' e1 e2 => q (k + 1) l' r' (by simpa using e1) (by simpa using e2)
    unfold tot wTot at h2 ⊢
    rw [List.map_cons, List.map_cons, List.sum_cons, List.sum_cons]; omega
theorem early_snoc {tm : List Int} {l : Lt} {r : List Int} {t : Int} (h : EarlyOk tm l r) (e : nextAt tm l r ≤ t) : EarlyOk tm l (r ++ [t]) := fun j hj => by
  rw [List.length_append, List.length_singleton] at hj
  by_cases q : j < r.length
  · have := h j q
    rw [List.take_append_of_le_length (by omega), List.getD_eq_getElem?_getD, List.getElem?_append_left q, ← List.getD_eq_getElem?_getD]
    exact this
  · have ej : j = r.length := by omega
    subst ej
    rw [List.take_append_of_le_length (Nat.le_refl _), List.take_length, List.getD_eq_getElem?_getD, List.getElem?_append_right (Nat.le_refl _), Nat.sub_self]
    exact e
theorem RowsOk.put {tm : List Int} {ls : List Lt} {rows : List (List Int)} (R : RowsOk tm ls rows) {k : Nat} {l : Lt} {r : List Int} {t : Int} (e1 : ls[k]? = some l) (e2 : rows[k]? = some r) (h : r.length < l.1.length) (e : nextAt tm l r ≤ t) :
    RowsOk tm ls (rows.set k (r ++ [t])) := by
  refine ⟨by rw [List.length_set]; exact R.len, fun k' l' r' f1 f2 => ?_⟩
  by_cases q : k = k'
  · subst q
    rw [e1] at f1
    cases f1
    rw [List.getElem?_set_self (List.getElem?_eq_some_iff.mp e2).1] at f2
    cases f2
    exact ⟨by rw [List.length_append, List.length_singleton]; omega, early_snoc (R.one k l r e1 e2).2 e⟩
  · rw [List.getElem?_set_ne q] at f2
    exact R.one k' l' r' f1 f2
/-- no entry is later than x -/
def MaxAt (rows : List (List Int)) (x : Int) : Prop := ∀ r ∈ rows, ∀ y ∈ r, y ≤ x
theorem MaxAt.mono {rows : List (List Int)} {x y : Int} (h : MaxAt rows x) (e : x ≤ y) : MaxAt rows y := fun r hr z hz => Int.le_trans (h r hr z hz) e
theorem MaxAt.put {rows : List (List Int)} {x t : Int} (h : MaxAt rows x) (e : t ≤ x) {k : Nat} {r : List Int} (e2 : rows[k]? = some r) : MaxAt (rows.set k (r ++ [t])) x := fun r' hr y hy => by
  rcases List.mem_or_eq_of_mem_set hr with hr | rfl
  · exact h r' hr y hy
  · rcases List.mem_append.mp hy with hy | hy
    · exact h r (List.mem_of_getElem? e2) y hy
    · rw [List.mem_singleton] at hy; subst hy; exact e
theorem mem_es {x : Nat × Int} : ∀ {ls : List Lt} {rows : List (List Int)}, x ∈ es ls rows → ∃ r ∈ rows, x.2 ∈ r
  | [], _, h => by cases h
  | _ :: _, [], h => by cases h
  | l :: ls, r :: rows, h => by
    rw [es_cons] at h
    rcases List.mem_append.mp h with h | h
    · exact ⟨r, List.mem_cons_self, (List.of_mem_zip (a := x.1) (b := x.2) h).2⟩
    · obtain ⟨r', h1, h2⟩ := mem_es h
      exact ⟨r', List.mem_cons_of_mem _ h1, h2⟩
theorem count_zero {ls : List Lt} {rows : List (List Int)} {x : Int} (h : MaxAt rows x) {road : Nat} {t : Int} (e : x < t) : (es ls rows).count (road, t) = 0 := by
  rw [List.count_eq_zero]
  intro z
  obtain ⟨r, h1, h2⟩ := mem_es z
  have := h r h1 t h2
  omega
/-- where the roads stand -/
def NotFull (rm : List Int) (ls : List Lt) (rows : List (List Int)) : Prop := ∀ road t, road < rm.length → ((es ls rows).count (road, t) : Int) ≤ rm.getD road 0
/-- how far each letter has come -/
def Goes (ls : List Lt) (rows : List (List Int)) (m : Nat) (t : Int) : Prop := ∀ (k : Nat) (l : Lt) (r : List Int), ls[k]? = some l → rows[k]? = some r →
  (r.length < l.1.length → t ≤ 24 + (m : Int) + 3 * (r.length : Int)) ∧ (0 < r.length → r.getD (r.length - 1) 0 ≤ 21 + (tot rows : Int) + 3 * (r.length : Int))
/-- within a tick -/
structure Tick (tm rm : List Int) (ls : List Lt) (rows0 rows : List (List Int)) (idle t : Int) (fr : List Int) (od : List Nat) : Prop where
  R : RowsOk tm ls rows
  M : MaxAt rows t
  N : NotFull rm ls rows
  fl : fr.length = rm.length
  F : ∀ road, road < rm.length → fr.getD road 0 = rm.getD road 0 - ((es ls rows).count (road, t) : Int)
  od_ : ∀ k ∈ od, k < ls.length
  G : Goes ls rows (tot rows0) t
  P : (rows = rows0 ∧ (idle < t → ∀ (k : Nat) (l : Lt) (r : List Int), ls[k]? = some l → rows[k]? = some r → k ∉ od → r.length = l.1.length ∨ t < nextAt tm l r)) ∨ tot rows0 < tot rows
theorem tick_start {tm rm : List Int} {ls : List Lt} {rows : List (List Int)} {idle t : Int} {n : Nat} (R : RowsOk tm ls rows) (M : MaxAt rows (t - 1)) (N : NotFull rm ls rows) (G : Goes ls rows (tot rows) t) (hn : n = ls.length) : Tick tm rm ls rows rows idle t rm (List.range n) := by
  refine ⟨R, M.mono (by omega), N, rfl, fun road hr => ?_, fun k hk => by rw [← hn]; exact List.mem_range.mp hk, G, .inl ⟨rfl, fun _ k l r e1 _ nk => ?_⟩⟩
  · rw [count_zero M (by omega)]; show _ = _ - (0 : Int); omega
  · exact absurd (List.mem_range.mpr (by rw [hn]; exact (List.getElem?_eq_some_iff.mp e1).1)) nk
theorem mem_erase {od : List Nat} {i k k' : Nat} (h : od[i]? = some k) (h1 : k' ∈ od) (h2 : k' ∉ od.eraseIdx i) : k' = k := by
  obtain ⟨j, hj, e⟩ := List.mem_iff_getElem.mp h1
  by_cases q : j = i
  · subst q
    have := (List.getElem?_eq_some_iff.mp h).2
    exact e.symm.trans this
  · refine absurd ?_ h2
    rw [List.mem_eraseIdx_iff_getElem]
    exact ⟨j, hj, q, e⟩
/-- one that is not passed -/
theorem Tick.stay {tm rm : List Int} {ls : List Lt} {rows0 rows : List (List Int)} {idle t : Int} {fr : List Int} {od : List Nat} (T : Tick tm rm ls rows0 rows idle t fr od) {i k : Nat} (h : od[i]? = some k)
    (hs : rows = rows0 → idle < t → ∀ (l : Lt) (r : List Int), ls[k]? = some l → rows[k]? = some r → r.length = l.1.length ∨ t < nextAt tm l r) : Tick tm rm ls rows0 rows idle t fr (od.eraseIdx i) := by
  refine ⟨T.R, T.M, T.N, T.fl, T.F, fun k hk => T.od_ k (List.mem_of_mem_eraseIdx hk), T.G, ?_⟩
  rcases T.P with ⟨e, p⟩ | p
  · refine .inl ⟨e, fun hi k' l r e1 e2 nk => ?_⟩
    by_cases q : k' ∈ od
    · obtain rfl := mem_erase h q nk
      exact hs e hi l r e1 e2
    · exact p hi k' l r e1 e2 q
  · exact .inr p
/-- one that is passed -/
theorem Tick.pass {tm rm : List Int} {ls : List Lt} {rows0 rows : List (List Int)} {idle t : Int} {fr : List Int} {od : List Nat} (T : Tick tm rm ls rows0 rows idle t fr od) {i k : Nat}
    {l : Lt} {r : List Int} (e1 : ls[k]? = some l) (e2 : rows[k]? = some r) (h1 : r.length < l.1.length) (h2 : nextAt tm l r ≤ t) (h3 : l.1.getD r.length 0 < rm.length) (h4 : 0 < fr.getD (l.1.getD r.length 0) 0) :
    Tick tm rm ls rows0 (rows.set k (r ++ [t])) idle t (fr.set (l.1.getD r.length 0) (fr.getD (l.1.getD r.length 0) 0 - 1)) (od.eraseIdx i) := by
  refine ⟨T.R.put e1 e2 h1 h2, T.M.put (Int.le_refl _) e2, fun road x hr => ?_, by rw [List.length_set]; exact T.fl, fun road hr => ?_, fun k hk => T.od_ k (List.mem_of_mem_eraseIdx hk), fun k' l' r' f1 f2 => ?_, ?_⟩
  · rw [count_set e1 e2 h1]
    have := T.N road x hr
    by_cases q : (l.1.getD r.length 0, t) = (road, x)
    · rw [if_pos q]
      have q1 : l.1.getD r.length 0 = road := congrArg Prod.fst q
      have q2 : t = x := congrArg Prod.snd q
      subst q2
      have := T.F road hr
      rw [q1] at h4
      omega
    · rw [if_neg q]; omega
  · rw [count_set e1 e2 h1]
    have f := T.F road hr
    by_cases q : l.1.getD r.length 0 = road
    · rw [if_pos (by rw [q])]
      rw [q, List.getD_eq_getElem?_getD, List.getElem?_set_self (by rw [T.fl]; exact hr)]
      show fr.getD road 0 - 1 = _
      omega
    · rw [if_neg (fun z => q (congrArg Prod.fst z))]
      rw [List.getD_eq_getElem?_getD, List.getElem?_set_ne q, ← List.getD_eq_getElem?_getD]
      omega
  · have tm0 : tot rows0 ≤ tot rows := by
      rcases T.P with ⟨e, _⟩ | p
      · rw [e]; exact Nat.le_refl _
      · omega
    rw [tot_set e2]
    by_cases q : k = k'
    · subst q
      rw [e1] at f1
      cases f1
      rw [List.getElem?_set_self (List.getElem?_eq_some_iff.mp e2).1] at f2
      cases f2
      have g := (T.G k l r e1 e2).1 h1
      have lr : (r ++ [t]).length = r.length + 1 := by rw [List.length_append]; rfl
      have la : (r ++ [t]).getD ((r ++ [t]).length - 1) 0 = t := by
        rw [lr, Nat.add_sub_cancel, List.getD_eq_getElem?_getD, List.getElem?_append_right (Nat.le_refl _), Nat.sub_self]; rfl
      rw [la, lr]
      exact ⟨fun _ => by omega, fun _ => by omega⟩
    · rw [List.getElem?_set_ne q] at f2
      have g := T.G k' l' r' f1 f2
      exact ⟨g.1, fun z => by have := g.2 z; omega⟩
  · refine .inr ?_
    rw [tot_set e2]
    rcases T.P with ⟨e, _⟩ | p
    · rw [e]; omega
    · omega
theorem next_le {tm : List Int} {l : Lt} {r : List Int} {x : Int} (ht : ∀ y ∈ tm, y ≤ 3) (hx : ∀ y ∈ r, y ≤ x) (hc : l.2 ≤ x + 3) : nextAt tm l r ≤ x + 3 := by
  unfold nextAt
  by_cases q : r.length = 0
  · rw [if_pos q]; exact hc
  · rw [if_neg q]
    have h1 : r.getD (r.length - 1) 0 ≤ x := by
      have hl : r.length - 1 < r.length := by omega
      rw [List.getD_eq_getElem?_getD, List.getElem?_eq_getElem hl]
      exact hx _ (List.getElem_mem hl)
    have h2 : tm.getD (l.1.getD (r.length - 1) 0) 0 ≤ 3 := by
      rw [List.getD_eq_getElem?_getD]
      cases e : tm[l.1.getD (r.length - 1) 0]? with
      | none => exact (by decide : (0 : Int) ≤ 3)
      | some y => exact ht y (List.mem_of_getElem? e)
    omega
/-- behind a tick -/
theorem Tick.ends {tm rm : List Int} {ls : List Lt} {rows0 rows : List (List Int)} {idle t : Int} {fr : List Int} (T : Tick tm rm ls rows0 rows idle t fr []) (hi : idle ≤ 23) (ht : ∀ y ∈ tm, y ≤ 3) (hc : ∀ l ∈ ls, l.2 ≤ 20) : Goes ls rows (tot rows) (t + 1) := by
  intro k l r e1 e2
  have g := T.G k l r e1 e2
  refine ⟨fun hu => ?_, g.2⟩
  have g1 := g.1 hu
  rcases T.P with ⟨e, p⟩ | p
  · subst e
    by_cases q : idle < t
    · rcases p q k l r e1 e2 (by simp) with z | z
      · omega
      · by_cases z0 : 0 < r.length
        · have g2 := g.2 z0
          have tz : tm.getD (l.1.getD (r.length - 1) 0) 0 ≤ 3 := by
            rw [List.getD_eq_getElem?_getD]
            cases e : tm[l.1.getD (r.length - 1) 0]? with
            | none => exact (by decide : (0 : Int) ≤ 3)
            | some y => exact ht y (List.mem_of_getElem? e)
          unfold nextAt at z
          rw [if_neg (by omega)] at z
          omega
        · have := hc l (List.mem_of_getElem? e1)
          unfold nextAt at z
          rw [if_pos (by omega)] at z
          omega
    · omega
  · omega
theorem goes_start (ls : List Lt) (rows : List (List Int)) (h : ∀ r ∈ rows, r = []) : Goes ls rows (tot rows) 1 := fun k l r e1 e2 => by
  have := h r (List.mem_of_getElem? e2)
  subst this
  exact ⟨fun _ => by omega, fun z => absurd z (by simp)⟩
theorem goes_end {tm : List Int} {ls : List Lt} {rows : List (List Int)} (G : Goes ls rows (tot rows) 400) (R : RowsOk tm ls rows) (h : wTot ls ≤ 300) (h8 : ∀ l ∈ ls, l.1.length ≤ 8) {k : Nat} {l : Lt} {r : List Int} (e1 : ls[k]? = some l) (e2 : rows[k]? = some r) : r.length = l.1.length := by
  have := tot_le R.len fun k l r e1 e2 => (R.one k l r e1 e2).1
  have h1 := (R.one k l r e1 e2).1
  have h2 := h8 l (List.mem_of_getElem? e1)
  by_cases q : r.length < l.1.length
  · have := (G k l r e1 e2).1 q
    omega
  · omega
/-! ### letters -/
def ltD (l : Lt) : D := .tup [nD l.1, .int l.2]
def ltsD (ls : List Lt) : D := .tup (ls.map ltD)
theorem noL_lts : ∀ ls : List Lt, noLs (ls.map ltD) = true
  | [] => rfl
  | l :: ls => by
    show ((noL (nD l.1) && (true && true)) && noLs (ls.map ltD)) = true
    rw [noL_lts ls, noL_nD]; rfl
structure LsOk (rds : List D) (ls : List Lt) : Prop where
  h : ∀ l ∈ ls, 1 ≤ l.1.length ∧ l.1.length ≤ 8 ∧ (∀ j ∈ l.1, j < rds.length) ∧ wayOk rds l.1 ∧ 1 ≤ l.2 ∧ l.2 ≤ 1000000
section
variable {P : Program} {w : World} {K : PySem.W.Frag} {mg : Str → Option Value} {base : Heap}
def spLetters : Sp := fun vs H Q _ => ∃ (h c : Addr) (v : V) (n : Int) (rds : List D) (m : Nat) (sp : Int), vs = [.ref h, v, .int (m : Nat), .int sp] ∧ HandAt H h c ∧ WebL H h v n rds ∧ m ≤ 60 ∧ 1 ≤ sp ∧ sp ≤ 1000 ∧
  ∀ v' ls H', HandAt H' h c → But h H H' → Rp H' h v' (ltsD ls) → ls.length = m → LsOk rds ls → (∀ l ∈ ls, l.1.length ≤ 5 ∧ l.2 ≤ sp) → Q v' H'
theorem ok__law_letters (T : Tx K mg) : FnOk P w K mg base CX0 3 T._law_letters.f T._law_letters.fd ["_law_hand_here", "_law_web_here", "_law_many", "_law_span"] spLetters := by
  refine T._law_letters.F.ok sc_law_letters (fun vs H Q E h => ?_) (fun cdv A outer s H vs Q E hr h => ?_)
  · obtain ⟨_, _, _, _, _, _, _, rfl, _⟩ := h
    rfl
  · obtain ⟨h, c, v, n, rds, m, sp, rfl, hA, W, hm, s0, s1, k⟩ := h
    refine ⟨_, (pss_one (ps_ret (pe_callTy call_tuple_of (by rfl) T.n_tuple (by decide +kernel) (pa_cons (pe_lc (own := [("_law_letter", 4)]) (g := (gName 4)) (tt := tYes) rfl sc_law_letters.nd (pi_range1 (by rfl) T.n_range (pa_cons (pv 2) pa_nil)) (blkOk_by (own := [("_law_letter", 4)]) (N := ["_law_hand_here", "_law_web_here", "_law_many", "_law_span", "_law_letter"]) (sc := defScope s_law_letters) (by decide +kernel)) (fun _ _ _ _ _ => (pg_name (i := 4) sc_law_letters.nd rfl (Or.inl rfl))) (fun _ _ _ _ _ => pts_nil) (fun _ _ _ _ _ => (by exact (pe_tup (pa_cons (pe_call (ok__law_way T) (hr.mono (by decide)) rfl T._law_way.g T._law_way.F.kp T._law_way.b .nil pass0 (pa_cons (pv 0) (pa_cons (pv 1) (pa_cons pe_int pa_nil)))) (pa_cons (pe_op op_add pe_int (pe_call (ok__law_draw T) (hr.mono (by decide)) rfl T._law_draw.g T._law_draw.F.kp T._law_draw.b .nil pass0 (pa_cons (pv 0) (pa_cons (pv 3) pa_nil)))) pa_nil)))))) pa_nil)))), ?_⟩
    refine ⟨_, rfl, (m : Int), rfl, by omega, by omega, fun D1 hD1 => ?_⟩
    obtain ⟨d1, d2⟩ := hA.ne hD1
    refine lc_range (lo := 0) (n := (m : Int).toNat) (fun i H' => ∃ (xs : List V) (ls : List Lt), HandAt H' h c ∧ But h H H' ∧ H' D1 = some (.lst xs) ∧ RpA H' h xs (ls.map ltD) ∧ ls.length = i ∧ LsOk rds ls ∧ ∀ l ∈ ls, l.1.length ≤ 5 ∧ l.2 ≤ sp)
      ⟨[], [], hA.upd d1 d2, (But.refl h H).upd hD1, upd_same, .nil, rfl, ⟨fun _ z => nomatch z⟩, fun _ z => nomatch z⟩ ?_ ?_
    · rintro i H1 hi ⟨xs, ls, hA1, b1, e1, r1, l1, o1, o2⟩
      refine ⟨rfl, tyes ⟨_, rfl, _, rfl, h, c, v, n, rds, 5, rfl, hA1, W.but b1 hA, by decide, by decide, fun v2 ns H2 hA2 b2 r2 n1 n2 n3 n4 => ?_⟩⟩
      refine ⟨_, rfl, _, rfl, h, c, sp, rfl, hA2, by omega, by omega, fun y H3 y0 y1 hA3 b3 => ⟨_, _, rfl, rfl, by show 2 ≤ sizeLine; decide, fun q hq => ?_⟩⟩
      have s4 : Same H3 (upd H3 q (.tup [v2, .int (1 + y)])) := same_upd hq
      have e3 := b3 _ _ (b2 _ _ e1 d1) d1
      have e4 := s4 _ _ e3
      have lx := r1.len
      have lm : (ls.map ltD).length = i := by rw [List.length_map]; exact l1
      refine ⟨xs, e4, line_lt (by omega), xs ++ [.ref q], ls ++ [(ns, 1 + y)], (hA3.mono s4).upd d1 d2, (b1.trans (b2.trans (b3.trans (But.of s4)))).upd hD1, upd_same, ?_, by rw [List.length_append, l1]; rfl, ⟨fun l hl => ?_⟩, fun l hl => ?_⟩
      · rw [List.map_append]
        have ra := ((r1.nl (b2.nl hA1.lst) (noL_lts ls)).nl (b3.nl hA2.lst) (noL_lts ls)).nl (NL.of s4) (noL_lts ls)
        have rb : Rp (upd H3 q (.tup [v2, .int (1 + y)])) h (.ref q) (ltD (ns, 1 + y)) := .tup upd_same (by simp) (.cons ((r2.nl (b3.nl hA2.lst) (noL_nD ns)).nl (NL.of s4) (noL_nD ns)) (.cons (.int _) .nil))
        have rc := ra.app (.cons rb .nil)
        refine rc.nl (NL.upd e4) ?_
        have := noL_lts (ls ++ [(ns, 1 + y)])
        rwa [List.map_append] at this
      · rcases List.mem_append.mp hl with hl | hl
        · exact o1.h l hl
        · rw [List.mem_singleton] at hl; subst hl
          exact ⟨n1, by show ns.length ≤ 8; omega, n3, n4, by show 1 ≤ 1 + y; omega, by show 1 + y ≤ 1000000; omega⟩
      · rcases List.mem_append.mp hl with hl | hl
        · exact o2 l hl
        · rw [List.mem_singleton] at hl; subst hl
          exact ⟨by show ns.length ≤ 5; omega, by show 1 + y ≤ sp; omega⟩
    · rintro H1 ⟨xs, ls, hA1, b1, e1, r1, l1, o1, o2⟩
      refine ⟨_, _, rfl, .inl ⟨SqL.of e1, fun q hq => ?_⟩⟩
      have s4 : Same H1 (upd H1 q (.tup xs)) := same_upd hq
      have lx := r1.len
      rw [List.length_map] at lx
      exact k (.ref q) ls _ (hA1.mono s4) (b1.trans (But.of s4)) (.tup upd_same (by omega) (r1.nl (NL.of s4) (noL_lts ls))) (by omega) o1 o2
end
end Hc


set_option Elab.async false
set_option linter.all false
set_option maxRecDepth 100000
set_option maxHeartbeats 1000000
set_option autoImplicit false
namespace Hc
open PySem L2
/-- [x for x in l if p(x)], l numbers -/
theorem lc_fl {K : PySem.W.Frag} {H0 : Hp} {b D : Addr} {ns : List Nat} {j : Nat} {te : TE} {tt : TT} {σ : St} {vs : List Nat} {Qd : Hp → Prop} (p : Nat → Bool)
    (eb : H0 b = some (.lst (ns.map fun j => V.int (j : Nat)))) (hz : ns.length ≤ 1000) (hD : H0 D = none)
    (hw : ∀ x, wipe ((wipe σ vs).set j (some x)) vs = wipe σ vs)
    (ht : ∀ r ∈ ns, ∀ H' (Q : Bool → Hp → Prop), Same H0 H' → Q (p r) H' → tt ((wipe σ vs).set j (some (.int (r : Nat)))) H' Q)
    (he : ∀ r ∈ ns, ∀ H' (Q : VK), Q (.int (r : Nat)) H' → te ((wipe σ vs).set j (some (.int (r : Nat)))) H' Q)
    (hd : ∀ H', Same H0 H' → H' D = some (.lst ((ns.filter p).map fun j => V.int (j : Nat))) → Qd H') :
    ∃ W : Nat → Nat → Hp → Prop, (∃ m, W 0 m (upd H0 D (.lst []))) ∧ ∀ i m H, W i m H →
      ((Itl K b).stop i H ∧ Qd H) ∨ ((Itl K b).go i H ∧ ∃ Nx : Hp → Prop, (∀ H', Nx H' → ∃ m', m' < m ∧ W (i + 1) m' H') ∧ ∀ x H', (Itl K b).yld i H x H' → (gName j) x (wipe σ vs) H' fun σ2 H2 => wipe σ2 vs = wipe σ vs ∧ tt σ2 H2 fun b H3 =>
        if b = true then te σ2 H3 fun y H4 => ∃ acc, H4 D = some (.lst acc) ∧ acc.length < sizeLine ∧ Nx (upd H4 D (.lst (acc ++ [y]))) else Nx H3) := by
  refine lc_list (K := K) (xs := ns.map fun j => V.int (j : Nat)) (fun i H' => Same H0 H' ∧ H' D = some (.lst (((ns.take i).filter p).map fun j => V.int (j : Nat))))
    ⟨same_upd hD, upd_same⟩ (fun i H' hi ⟨s, _⟩ => SqL.of (s _ _ eb)) ?_ ?_
  · intro i x H' hx ⟨s, hH⟩
    have hi : i < ns.length := by
      have := (List.getElem?_eq_some_iff.mp hx).1
      rwa [List.length_map] at this
    have ex : x = .int (ns[i] : Nat) := by
      rw [List.getElem?_map, List.getElem?_eq_getElem hi] at hx
      exact (Option.some.inj hx).symm
    subst ex
    have hm : ns[i] ∈ ns := List.getElem_mem hi
    have tk : ns.take (i + 1) = ns.take i ++ [ns[i]] := take_more (List.getElem?_eq_getElem hi)
    have hl2 : ((ns.take i).filter p).length ≤ 1000 := by
      refine Nat.le_trans (List.length_filter_le _ _) ?_
      rw [List.length_take]; omega
    refine ⟨hw _, ht _ hm H' _ s ?_⟩
    cases hp : p ns[i] with
    | true =>
      refine iteT (he _ hm H' _ ⟨_, hH, by rw [List.length_map]; exact line_lt (by omega), fun b o q => ?_, ?_⟩)
      · rw [upd_ne (ne_of_none q hD)]
        exact s _ _ q
      · have e1 : [ns[i]].filter p = [ns[i]] := by rw [List.filter_cons, if_pos hp]; rfl
        rw [upd_same, tk, List.filter_append, List.map_append, e1]; rfl
    | false =>
      have e1 : [ns[i]].filter p = [] := by rw [List.filter_cons, if_neg (by rw [hp]; decide)]; rfl
      refine iteF ⟨s, ?_⟩
      rw [tk, List.filter_append, e1, List.append_nil]
      exact hH
  · intro H' ⟨s, hH⟩
    rw [List.length_map, List.take_length] at hH
    exact hd H' s hH
/-- [x for x in range(n) if p(x)] -/
theorem lc_fr {H0 : Hp} {D : Addr} {n : Nat} {j : Nat} {te : TE} {tt : TT} {σ : St} {vs : List Nat} {Qd : Hp → Prop} (p : Nat → Bool) (hz : n ≤ 1000) (hD : H0 D = none)
    (hw : ∀ x, wipe ((wipe σ vs).set j (some x)) vs = wipe σ vs)
    (ht : ∀ r, r < n → ∀ H' (Q : Bool → Hp → Prop), Same H0 H' → Q (p r) H' → tt ((wipe σ vs).set j (some (.int (0 + (r : Int))))) H' Q)
    (he : ∀ r, r < n → ∀ H' (Q : VK), Q (.int (0 + (r : Int))) H' → te ((wipe σ vs).set j (some (.int (0 + (r : Int))))) H' Q)
    (hd : ∀ H', Same H0 H' → H' D = some (.lst (((List.range n).filter p).map fun j => V.int (j : Nat))) → Qd H') :
    ∃ W : Nat → Nat → Hp → Prop, (∃ m, W 0 m (upd H0 D (.lst []))) ∧ ∀ i m H, W i m H →
      ((Itr 0 n).stop i H ∧ Qd H) ∨ ((Itr 0 n).go i H ∧ ∃ Nx : Hp → Prop, (∀ H', Nx H' → ∃ m', m' < m ∧ W (i + 1) m' H') ∧ ∀ x H', (Itr 0 n).yld i H x H' → (gName j) x (wipe σ vs) H' fun σ2 H2 => wipe σ2 vs = wipe σ vs ∧ tt σ2 H2 fun b H3 =>
        if b = true then te σ2 H3 fun y H4 => ∃ acc, H4 D = some (.lst acc) ∧ acc.length < sizeLine ∧ Nx (upd H4 D (.lst (acc ++ [y]))) else Nx H3) := by
  refine lc_range (lo := 0) (n := n) (fun i H' => Same H0 H' ∧ H' D = some (.lst (((List.range i).filter p).map fun j => V.int (j : Nat))))
    ⟨same_upd hD, upd_same⟩ ?_ ?_
  · intro i H' hi ⟨s, hH⟩
    have hl2 : ((List.range i).filter p).length ≤ 1000 := by
      refine Nat.le_trans (List.length_filter_le _ _) ?_
      rw [List.length_range]; omega
    refine ⟨hw _, ht _ hi H' _ s ?_⟩
    cases hp : p i with
    | true =>
      refine iteT (he _ hi H' _ ⟨_, hH, by rw [List.length_map]; exact line_lt (by omega), fun b o q => ?_, ?_⟩)
      · rw [upd_ne (ne_of_none q hD)]
        exact s _ _ q
      · have e1 : [i].filter p = [i] := by rw [List.filter_cons, if_pos hp]; rfl
        rw [upd_same, List.range_succ, List.filter_append, List.map_append, e1, List.map_cons, List.map_nil, Int.zero_add]
    | false =>
      have e1 : [i].filter p = [] := by rw [List.filter_cons, if_neg (by rw [hp]; decide)]; rfl
      refine iteF ⟨s, ?_⟩
      rw [List.range_succ, List.filter_append, e1, List.append_nil]
      exact hH
  · intro H' ⟨s, hH⟩
    exact hd H' s hH
abbrev rLtS : R2 := rI0 fun i j => .bl (decide (i < j))
abbrev rLenS (K : PySem.W.Frag) : List V → Hp → VK → Prop := fun xs H Q => ∃ p ys, xs = [V.ref p] ∧ (SqL K H p ys ∨ SqT K H p ys) ∧ Q (.int ys.length) H
abbrev rTupOf (K : PySem.W.Frag) : List V → Hp → VK → Prop := fun xs H Q => ∃ p ys, xs = [V.ref p] ∧ ((SqL K H p ys ∧ ∀ l, H l = none → Q (.ref l) (upd H l (.tup ys))) ∨ (SqT K H p ys ∧ Q (.ref p) H))
theorem RpA.ints_inv {H : Hp} {h : Addr} : ∀ {ns : List Int} {xs : List V}, RpA H h xs (ns.map D.int) → xs = ns.map V.int
  | [], _, .nil => rfl
  | n :: ns, _, .cons r q => by
    cases r
    rw [RpA.ints_inv q]; rfl
theorem WebF.inv {H : Hp} {h : Addr} {v : V} {n : Int} {rds : List D} {rm tm : List Int} (x : WebF H h v n rds rm tm) : ∃ p q x3 x4, v = .ref p ∧ H p = some (.tup [.int n, .ref q, .ref x3, .ref x4]) ∧ H x3 = some (.tup (rm.map V.int)) ∧ H x4 = some (.tup (tm.map V.int)) := by
  obtain ⟨p, ys, rfl, e, _, ra⟩ := tup_inv x.r
  cases ra with
  | cons r1 ra =>
  cases ra with
  | cons r2 ra =>
  cases ra with
  | cons r3 ra =>
  cases ra with
  | cons r4 ra =>
  cases ra
  cases r1
  obtain ⟨q, _, rfl, _, _, _⟩ := tup_inv r2
  obtain ⟨a, xs, rfl, e3, _, r3'⟩ := tup_inv r3
  obtain ⟨b, ys, rfl, e4, _, r4'⟩ := tup_inv r4
  rw [r3'.ints_inv] at e3
  rw [r4'.ints_inv] at e4
  exact ⟨p, q, a, b, rfl, e, e3, e4⟩
theorem lt_inv {H : Hp} {h : Addr} {v : V} {l : Lt} (r : Rp H h v (ltD l)) : ∃ q a, v = .ref q ∧ H q = some (.tup [.ref a, .int l.2]) ∧ H a = some (.tup (l.1.map fun j => V.int (j : Nat))) := by
  obtain ⟨q, ys, rfl, e, _, ra⟩ := tup_inv r
  cases ra with
  | cons r1 ra =>
  cases ra with
  | cons r2 ra =>
  cases ra
  cases r2
  obtain ⟨a, rfl, ea, _⟩ := nD_inv r1
  exact ⟨q, a, rfl, e, ea⟩
theorem lts_at {H : Hp} {h : Addr} {v : V} {ls : List Lt} (r : Rp H h v (ltsD ls)) : ∃ q xs, v = .ref q ∧ H q = some (.tup xs) ∧ xs.length = ls.length ∧ ∀ (k : Nat) (l : Lt), ls[k]? = some l → ∃ x, xs[k]? = some x ∧ Rp H h x (ltD l) := by
  obtain ⟨q, xs, rfl, e, _, ra⟩ := tup_inv r
  have hl := ra.len
  rw [List.length_map] at hl
  refine ⟨q, xs, rfl, e, hl, fun k l hk => ?_⟩
  have hk' : k < xs.length := by rw [hl]; exact (List.getElem?_eq_some_iff.mp hk).1
  obtain ⟨d, h1, h2⟩ := ra.get (List.getElem?_eq_getElem hk')
  rw [List.getElem?_map, hk] at h1
  cases h1
  exact ⟨_, List.getElem?_eq_getElem hk', h2⟩
theorem int_at (ns : List Int) {j : Nat} (h : j < ns.length) : (ns.map V.int)[j]? = some (.int (ns.getD j 0)) := by
  rw [List.getElem?_map, List.getElem?_eq_getElem h, List.getD_eq_getElem?_getD, List.getElem?_eq_getElem h]; rfl
theorem nat_at (ns : List Nat) {j : Nat} (h : j < ns.length) : (ns.map fun j => V.int (j : Nat))[j]? = some (.int (ns.getD j 0 : Nat)) := by
  rw [List.getElem?_map, List.getElem?_eq_getElem h, List.getD_eq_getElem?_getD, List.getElem?_eq_getElem h]; rfl
theorem nat_mem (ns : List Nat) {j : Nat} (h : j < ns.length) : ns.getD j 0 ∈ ns := by
  rw [List.getD_eq_getElem?_getD, List.getElem?_eq_getElem h]
  exact List.getElem_mem h
theorem last_at (ns : List Int) (h : ns.length ≠ 0) : atI (ns.map V.int) (-1) = some (.int (ns.getD (ns.length - 1) 0)) := by
  rcases List.eq_nil_or_concat ns with e | ⟨ms, y, e⟩
  · subst e; exact absurd rfl h
  · rw [List.concat_eq_append] at e
    subst e
    rw [List.map_append]
    have e2 : (ms ++ [y]).getD ((ms ++ [y]).length - 1) 0 = y := by
      rw [List.getD_eq_getElem?_getD, List.length_append, List.length_singleton, Nat.add_sub_cancel, List.getElem?_append_right (Nat.le_refl _), Nat.sub_self]; rfl
    rw [e2]
    exact atI_last _ _
section
variable {P : Program} {w : World} {K : PySem.W.Frag} {mg : Str → Option Value} {base : Heap}
def rdy (tm : List Int) (l : Lt) (r : List Int) : V := if r.length = l.1.length then .non else .int (nextAt tm l r)
def spReady : Sp := fun vs H Q _ => ∃ (h : Addr) (v vl : V) (n : Int) (rds : List D) (rm tm : List Int) (l : Lt) (b : Addr) (r : List Int), vs = [v, vl, .ref b] ∧ WebF H h v n rds rm tm ∧ Rp H h vl (ltD l) ∧ H b = some (.lst (r.map V.int)) ∧ r.length ≤ l.1.length ∧ (∀ j ∈ l.1, j < rds.length) ∧
  Q (rdy tm l r) H
theorem ok__law_ready (T : Tx K mg) : FnOk P w K mg base CX0 1 T._law_ready.f T._law_ready.fd ["_law_web_here", "_law_letter", "_law_row"] spReady := by
  refine T._law_ready.F.ok sc_law_ready (fun vs H Q E h => ?_) (fun cdv A outer s H vs Q E hr h => ?_)
  · obtain ⟨_, _, _, _, _, _, _, _, _, _, rfl, _⟩ := h
    rfl
  · obtain ⟨h, v, vl, n, rds, rm, tm, l, b, r, rfl, W, rl, e, hl, hj, k⟩ := h
    obtain ⟨p, q, x3, x4, rfl, ep, e3, e4⟩ := W.inv
    obtain ⟨ql, a, rfl, eq, ea⟩ := lt_inv rl
    refine ⟨_, (pss_cons (ps_set (i := 3) sc_law_ready.nd rfl (Or.inl rfl) (pe_callB call_len_seq (by rfl) T.n_len (by decide +kernel) (pa_cons (pv 2) pa_nil)))
      (pss_cons (ps_if (pt_cmpR op_eq (pv 3) (pe_callB call_len_seq (by rfl) T.n_len (by decide +kernel) (pa_cons (pe_ix ix_tup (pv 1) pe_int (fun _ _ => rfl)) pa_nil)) (nomark _))
      (pss_one (ps_ret pe_non))
      pss_nil)
      (pss_cons (ps_if (pt_cmpR op_eq (pv 3) pe_int (nomark _))
      (pss_one (ps_ret (pe_ix ix_tup (pv 1) pe_int (fun _ _ => rfl))))
      pss_nil)
      (pss_one (ps_ret (pe_op op_add (pe_ix ix_list (pv 2) (pe_un un_neg pe_int) (fun _ _ => rfl)) (pe_ix ix_tup (pe_ix ix_tup (pv 0) pe_int (fun _ _ => rfl)) (pe_ix ix_tup (pe_ix ix_tup (pv 1) pe_int (fun _ _ => rfl)) (pe_op op_sub (pv 3) pe_int) (fun _ _ => rfl)) (fun _ _ => rfl)))))))), ?_⟩
    refine ⟨_, rfl, b, _, rfl, .inl (SqL.of e), ?_⟩
    refine ⟨_, rfl, _, rfl, ql, _, 0, _, rfl, rfl, SqT.of eq, atI_nat (j := 0) rfl, a, _, rfl, .inr (SqT.of ea), rfl, _, rfl, ?_⟩
    rw [int_eqd, List.length_map, List.length_map]
    unfold rdy at k
    by_cases g : r.length = l.1.length
    · rw [decide_eq_true (show ((r.length : Nat) : Int) = (l.1.length : Nat) by omega)]
      rw [if_pos g] at k
      exact iteT k
    rw [decide_eq_false (show ¬ ((r.length : Nat) : Int) = (l.1.length : Nat) by omega)]
    rw [if_neg g] at k
    refine iteF ⟨_, rfl, rfl, _, rfl, ?_⟩
    rw [int_eqd]
    unfold nextAt at k
    by_cases g2 : r.length = 0
    · rw [decide_eq_true (show ((r.length : Nat) : Int) = 0 by omega)]
      rw [if_pos g2] at k
      exact iteT ⟨_, rfl, ql, _, 1, _, rfl, rfl, SqT.of eq, atI_nat (j := 1) rfl, k⟩
    · rw [decide_eq_false (show ¬ ((r.length : Nat) : Int) = 0 by omega)]
      rw [if_neg g2] at k
      have h1 : r.length - 1 < l.1.length := by omega
      have h2 := hj _ (nat_mem l.1 h1)
      refine iteF ⟨_, rfl, _, rfl, b, _, -1, _, rfl, rfl, SqL.of e, last_at r g2, _, rfl, p, _, 3, _, rfl, rfl, SqT.of ep, atI_nat (j := 3) rfl, _, rfl, ql, _, 0, _, rfl, rfl, SqT.of eq, atI_nat (j := 0) rfl, _, rfl, _, _, rfl, rfl, a, _, _, _, rfl, rfl, SqT.of ea,
        at_of (j := r.length - 1) (by omega) (nat_at l.1 h1), x4, _, _, _, rfl, rfl, SqT.of e4, atI_nat (int_at tm (by rw [W.lt]; exact h2)), _, _, rfl, rfl, k⟩
/-- the rows so far, lists in the list at RW -/
structure HS (H0 H : Hp) (h c RW : Addr) (bs : List Addr) (rows : List (List Int)) : Prop where
  hand : HandAt H h c
  but : But h H0 H
  rw : H RW = some (.lst (bs.map V.ref))
  row : ∀ (k : Nat) (b : Addr) (r : List Int), bs[k]? = some b → rows[k]? = some r → H b = some (.lst (r.map V.int))
  len : bs.length = rows.length
  nd : bs.Nodup
  f0 : H0 RW = none
  f1 : ∀ b ∈ bs, H0 b = none ∧ b ≠ RW
theorem HS.setA {H0 H : Hp} {h c RW : Addr} {bs : List Addr} {rows : List (List Int)} (x : HS H0 H h c RW bs rows) (hA : HandAt H0 h c) {D : Addr} {o : HO} (h0 : H0 D = none) (h1 : D ≠ RW) (h2 : D ∉ bs) : HS H0 (upd H D o) h c RW bs rows := by
  obtain ⟨d1, d2⟩ := hA.ne h0
  refine ⟨x.hand.upd d1 d2, x.but.upd h0, by rw [upd_ne (Ne.symm h1)]; exact x.rw, fun k b r e1 e2 => ?_, x.len, x.nd, x.f0, x.f1⟩
  have ne : b ≠ D := fun z => by subst z; exact h2 (List.mem_of_getElem? e1)
  rw [upd_ne ne]
  exact x.row k b r e1 e2
theorem HS.draw {H0 H H' : Hp} {h c RW : Addr} {bs : List Addr} {rows : List (List Int)} (x : HS H0 H h c RW bs rows) (hA0 : HandAt H0 h c) (hA : HandAt H' h c) (b : But h H H') : HS H0 H' h c RW bs rows := by
  refine ⟨hA, x.but.trans b, b _ _ x.rw (hA0.ne x.f0).1, fun k q r e1 e2 => ?_, x.len, x.nd, x.f0, x.f1⟩
  exact b _ _ (x.row k q r e1 e2) (hA0.ne (x.f1 q (List.mem_of_getElem? e1)).1).1
theorem HS.put {H0 H : Hp} {h c RW : Addr} {bs : List Addr} {rows : List (List Int)} (x : HS H0 H h c RW bs rows) (hA : HandAt H0 h c) {k : Nat} {b : Addr} {r' : List Int} (e1 : bs[k]? = some b) : HS H0 (upd H b (.lst (r'.map V.int))) h c RW bs (rows.set k r') := by
  obtain ⟨f1, f2⟩ := x.f1 b (List.mem_of_getElem? e1)
  obtain ⟨d1, d2⟩ := hA.ne f1
  refine ⟨x.hand.upd d1 d2, x.but.upd f1, by rw [upd_ne (Ne.symm f2)]; exact x.rw, fun k' q r e3 e4 => ?_, by rw [List.length_set]; exact x.len, x.nd, x.f0, x.f1⟩
  by_cases g : k = k'
  · subst g
    rw [e1] at e3
    cases e3
    have hk : k < rows.length := by rw [← x.len]; exact (List.getElem?_eq_some_iff.mp e1).1
    rw [List.getElem?_set_self hk] at e4
    cases e4
    rw [upd_same]
  · rw [List.getElem?_set_ne g] at e4
    have : q ≠ b := fun z => by
      subst z
      exact g (nd_ix x.nd e1 e3)
    rw [upd_ne this]
    exact x.row k' q r e3 e4
theorem HS.nl {H0 H : Hp} {h c RW : Addr} {bs : List Addr} {rows : List (List Int)} (x : HS H0 H h c RW bs rows) (hA : HandAt H0 h c) : NL H0 H := x.but.nl hA.lst
end
end Hc


set_option Elab.async false
set_option linter.all false
set_option maxRecDepth 100000
set_option maxHeartbeats 2000000
set_option autoImplicit false
namespace Hc
open PySem L2
theorem ixN_nat {n j : Nat} (h : j < n) : ixN n (j : Int) = some j := by
  unfold ixN
  rw [if_pos (by omega), if_pos (by omega)]; rfl
theorem seq_nat {n : Nat} {x : Int} (h0 : 0 ≤ x) (h : x < n) : seqIndex? x n = some x.toNat := by
  have q : ixN n x = some x.toNat := by
    unfold ixN
    rw [if_pos h0, if_pos h]
  exact (ixN_seq q).1
theorem map_erase (od : List Nat) (i : Nat) : (od.map fun j => V.int (j : Nat)).eraseIdx i = (od.eraseIdx i).map fun j => V.int (j : Nat) := by
  rw [List.eraseIdx_eq_take_drop_succ, List.eraseIdx_eq_take_drop_succ, List.map_append, List.map_take, List.map_drop]
/-- the hours of a day -/
structure HrOk (rm tm : List Int) (ls : List Lt) (rows : List (List Int)) : Prop where
  len : rows.length = ls.length
  one : ∀ (k : Nat) (l : Lt) (r : List Int), ls[k]? = some l → rows[k]? = some r → r.length = l.1.length ∧ EarlyOk tm l r
  full : NotFull rm ls rows
  mx : MaxAt rows 399
def rowD (r : List Int) : D := .tup (r.map D.int)
def rowsD (rows : List (List Int)) : D := .tup (rows.map rowD)
theorem noL_rows : ∀ rows : List (List Int), noLs (rows.map rowD) = true
  | [] => rfl
  | r :: rows => by
    show (noLs (r.map D.int) && noLs (rows.map rowD)) = true
    rw [noL_rows rows, noL_int]; rfl
section
variable {P : Program} {w : World} {K : PySem.W.Frag} {mg : Str → Option Value} {base : Heap}
def spHours : Sp := fun vs H Q _ => ∃ (h c : Addr) (v vl : V) (n : Int) (rds : List D) (rm tm : List Int) (ls : List Lt), vs = [.ref h, v, vl] ∧ HandAt H h c ∧ WebF H h v n rds rm tm ∧ Rp H h vl (ltsD ls) ∧ LsOk rds ls ∧ wTot ls ≤ 300 ∧ (∀ l ∈ ls, l.2 ≤ 20) ∧ ls.length ≤ 60 ∧
  ∀ vh rows H', HandAt H' h c → But h H H' → Rp H' h vh (rowsD rows) → HrOk rm tm ls rows → Q vh H'
theorem ok__law_hours (T : Tx K mg) : FnOk P w K mg base CX0 2 T._law_hours.f T._law_hours.fd ["_law_hand_here", "_law_web_here", "_law_letters_here"] spHours := by
  refine T._law_hours.F.ok sc_law_hours (fun vs H Q E h => ?_) (fun cdv A outer s H vs Q E hr h => ?_)
  · obtain ⟨_, _, _, _, _, _, _, _, _, rfl, _⟩ := h
    rfl
  · obtain ⟨h, c, v, vl, n, rds, rm, tm, ls, rfl, hA, W, rl, o, t120, c20, l60, k⟩ := h
    obtain ⟨q, xs, rfl, eq, lx, at_⟩ := lts_at rl
    obtain ⟨pw, qw, x3, x4, rfl, epw, ex3, ex4⟩ := W.inv
    refine ⟨_, (pss_cons (ps_set (i := 3) sc_law_hours.nd rfl (Or.inr rfl) (by exact (pe_lc (own := [("_law_letter", 11)]) (g := (gName 11)) (tt := tYes) rfl sc_law_hours.nd (pi_tup (pv 2)) (blkOk_by (own := [("_law_letter", 11)]) (N := ["_law_hand_here", "_law_web_here", "_law_letters_here", "_law_rows", "_law_idle", "_law_tick", "_law_free", "_law_order", "_law_number", "_law_ready_here", "_law_road", "_law_letter", "_law_row"]) (sc := defScope s_law_hours) (by decide +kernel)) (fun _ _ _ _ _ => (pg_name (i := 11) sc_law_hours.nd rfl (Or.inl rfl))) (fun _ _ _ _ _ => pts_nil) (fun _ _ _ _ _ => (by exact (pe_lst pa_nil))))))
      (pss_cons (ps_set (i := 4) sc_law_hours.nd rfl (Or.inl rfl) (pe_op op_add pe_int (pe_call (ok__law_draw T) (hr.mono (by decide)) rfl T._law_draw.g T._law_draw.F.kp T._law_draw.b .nil pass0 (pa_cons (pv 0) (pa_cons pe_int pa_nil)))))
      (C8.pss_cut (ps_for PassesOwn.never rfl (pi_range2 (by rfl) T.n_range (pa_cons pe_int (pa_cons pe_int pa_nil))) (pg_name (i := 5) sc_law_hours.nd rfl (Or.inl rfl))
      (pss_cons (ps_set (i := 6) sc_law_hours.nd rfl (Or.inl rfl) (pe_callTy call_list_of (by rfl) T.n_list (by decide +kernel) (pa_cons (pe_ix ix_tup (pv 1) pe_int (fun _ _ => rfl)) pa_nil)))
      (pss_cons (ps_set (i := 7) sc_law_hours.nd rfl (Or.inl rfl) (pe_listRg rfl (by rfl) T.n_list (prg_1 (by rfl) T.n_range (pe_callB call_len_seq (by rfl) T.n_len (by decide +kernel) (pa_cons (pv 2) pa_nil)))))
      (C8.pss_cut (ps_while PassesOwn.never (pt_cmpR op_gt (pe_callB call_len_seq (by rfl) T.n_len (by decide +kernel) (pa_cons (pv 7) pa_nil)) pe_int (nomark _))
      (pss_cons (ps_set (i := 8) sc_law_hours.nd rfl (Or.inl rfl) (pe_bm PySem.F.plainAttrs_list PySem.F.slot_list_pop PySem.F.type_list_pop mt_popAt (pv 7) (pa_cons (pe_call (ok__law_draw T) (hr.mono (by decide)) rfl T._law_draw.g T._law_draw.F.kp T._law_draw.b .nil pass0 (pa_cons (pv 0) (pa_cons (pe_callB call_len_seq (by rfl) T.n_len (by decide +kernel) (pa_cons (pv 7) pa_nil)) pa_nil))) pa_nil)))
      (pss_cons (ps_set (i := 9) sc_law_hours.nd rfl (Or.inl rfl) (pe_call (ok__law_ready T) (hr.mono (by decide)) rfl T._law_ready.g T._law_ready.F.kp T._law_ready.b .nil pass0 (pa_cons (pv 1) (pa_cons (pe_ix ix_tup (pv 2) (pv 8) (fun _ _ => rfl)) (pa_cons (pe_ix ix_list (pv 3) (pv 8) (fun _ _ => rfl)) pa_nil)))))
      (pss_one (ps_if (PW.pt (pw_and (pt_cmpR op_notN (pv 9) pe_non (nomark _)) (pw_and1 (pt_cmpR op_le (pv 9) (pv 5) (nomark _)))))
      (pss_cons (ps_set (i := 10) sc_law_hours.nd rfl (Or.inl rfl) (pe_ix ix_tup (pe_ix ix_tup (pe_ix ix_tup (pv 2) (pv 8) (fun _ _ => rfl)) pe_int (fun _ _ => rfl)) (pe_callB call_len_seq (by rfl) T.n_len (by decide +kernel) (pa_cons (pe_ix ix_list (pv 3) (pv 8) (fun _ _ => rfl)) pa_nil)) (fun _ _ => rfl)))
      (pss_one (ps_if (PW.pt (pw_and (pt_cmpR op_gt (pe_ix ix_list (pv 6) (pv 10) (fun _ _ => rfl)) pe_int (nomark _)) (pw_and1 (PW.pt (pw_or (pt_cmpR op_gt (pv 5) (pv 4) (nomark _)) (pw_or1 (pt_cmpR op_gt (pe_call (ok__law_draw T) (hr.mono (by decide)) rfl T._law_draw.g T._law_draw.F.kp T._law_draw.b .nil pass0 (pa_cons (pv 0) (pa_cons pe_int pa_nil))) pe_int (nomark _))))))))
      (pss_cons (ps_asg (pe_op op_sub (pe_ix ix_list (pv 6) (pv 10) (fun _ _ => rfl)) pe_int) (pg_sub (pv 6) (pv 10) set_list))
      (pss_one (ps_expr (pe_bm PySem.F.plainAttrs_list PySem.F.slot_list_append PySem.F.type_list_append mt_append (pe_ix ix_list (pv 3) (pv 8) (fun _ _ => rfl)) (pa_cons (pv 5) pa_nil)))))
      pss_nil)))
      pss_nil)))))
      (pss_one (ps_if (pt_cmpR op_eq (pe_callB call_len_seq (by rfl) T.n_len (by decide +kernel) (pa_cons (pe_lc (own := [("_law_number", 8)]) (g := (gName 8))  (tt := (tTest (tOp rLtS (tCB (rLenS K) (tCons (tOp (rIxL K) (tVar 3) (tVar 8)) tNil)) (tCB (rLenS K) (tCons (tOp (rIxT K) (tOp (rIxT K) (tVar 2) (tVar 8)) (tC (.int 0))) tNil))))) rfl sc_law_hours.nd (pi_range1 (by rfl) T.n_range (pa_cons (pe_callB call_len_seq (by rfl) T.n_len (by decide +kernel) (pa_cons (pv 2) pa_nil)) pa_nil)) (blkOk_by (own := [("_law_number", 8)]) (N := ["_law_hand_here", "_law_web_here", "_law_letters_here", "_law_rows", "_law_idle", "_law_tick", "_law_free", "_law_order", "_law_number", "_law_ready_here", "_law_road", "_law_letter", "_law_row"]) (sc := defScope s_law_hours) (by decide +kernel)) (fun _ _ _ _ _ => (pg_name (i := 8) sc_law_hours.nd rfl (Or.inl rfl))) (fun _ _ _ _ _ => (pts_one (by exact (pt_cmpR op_lt (pe_callB call_len_seq (by rfl) T.n_len (by decide +kernel) (pa_cons (pe_ix ix_list (pv 3) (pv 8) (fun _ _ => rfl)) pa_nil)) (pe_callB call_len_seq (by rfl) T.n_len (by decide +kernel) (pa_cons (pe_ix ix_tup (pe_ix ix_tup (pv 2) (pv 8) (fun _ _ => rfl)) pe_int (fun _ _ => rfl)) pa_nil)) (nomark _))))) (fun _ _ _ _ _ => (by exact (pv 8)))) pa_nil)) pe_int (nomark _))
      (pss_one ps_break)
      pss_nil))))))
      (pss_one (ps_ret (pe_callTy call_tuple_of (by rfl) T.n_tuple (by decide +kernel) (pa_cons (pe_lc (own := [("_law_row", 12)]) (g := (gName 12)) (tt := tYes) (te := (tCB (rTupOf K) (tCons (tVar 12) tNil))) rfl sc_law_hours.nd (pi_list (pv 3)) (blkOk_by (own := [("_law_row", 12)]) (N := ["_law_hand_here", "_law_web_here", "_law_letters_here", "_law_rows", "_law_idle", "_law_tick", "_law_free", "_law_order", "_law_number", "_law_ready_here", "_law_road", "_law_letter", "_law_row"]) (sc := defScope s_law_hours) (by decide +kernel)) (fun _ _ _ _ _ => (pg_name (i := 12) sc_law_hours.nd rfl (Or.inl rfl))) (fun _ _ _ _ _ => pts_nil) (fun _ _ _ _ _ => (by exact (pe_callTy call_tuple_of (by rfl) T.n_tuple (by decide +kernel) (pa_cons (pv 12) pa_nil))))) pa_nil))))))), ?_⟩
    refine ⟨_, rfl, q, rfl, ⟨_, SqT.of eq⟩, fun RW hRW => ?_⟩
    refine lc_tup (K := K) (a := q) (xs := xs) (fun i H' => ∃ bs : List Addr, H' RW = some (.lst (bs.map V.ref)) ∧ bs.length = i ∧ (∀ b ∈ bs, H' b = some (.lst []) ∧ H b = none ∧ b ≠ RW) ∧ bs.Nodup ∧ Same H (fun b => if b = RW then none else H' b))
      ⟨[], upd_same, rfl, (fun _ z => (nomatch z)), List.nodup_nil, fun b o z => ?_⟩ (fun i H' hi ⟨_, _, _, _, _, s⟩ => ?_) ?_ ?_
    · have nb := ne_of_none z hRW
      show (if b = RW then none else upd H RW _ b) = _
      rw [if_neg nb, upd_ne nb]; exact z
    · have z := s _ _ eq
      simp only [if_neg (ne_of_none eq hRW)] at z
      exact SqT.of z
    · rintro i x H' hx ⟨bs, e, lb, hb, nd, s⟩
      have hi : i < xs.length := (List.getElem?_eq_some_iff.mp hx).1
      refine ⟨rfl, tyes ⟨by show 0 ≤ sizeLine; decide, fun b hbn => ?_⟩⟩
      have nbR : b ≠ RW := fun z => by subst z; rw [e] at hbn; cases hbn
      have ne : ∀ b' ∈ bs, b' ≠ b := fun b' h' z => by subst z; rw [(hb _ h').1] at hbn; cases hbn
      refine ⟨_, by rw [upd_ne nbR.symm]; exact e, by rw [List.length_map]; exact line_lt (by omega), bs ++ [b], by rw [upd_same, List.map_append]; rfl, by rw [List.length_append, lb]; rfl, fun b' h' => ?_, ?_, fun b' o z => ?_⟩
      · rcases List.mem_append.mp h' with h' | h'
        · obtain ⟨g1, g2, g3⟩ := hb b' h'
          exact ⟨by rw [upd_ne g3, upd_ne (ne b' h')]; exact g1, g2, g3⟩
        · rw [List.mem_singleton] at h'; subst h'
          refine ⟨by rw [upd_ne nbR, upd_same], ?_, nbR⟩
          cases z : H b' with
          | none => rfl
          | some o =>
            have := s _ _ z
            simp only [if_neg nbR] at this
            rw [hbn] at this; cases this
      · rw [List.nodup_append]
        refine ⟨nd, by simp, fun a ha b2 hb2 => ?_⟩
        rw [List.mem_singleton] at hb2
        subst hb2
        exact ne a ha
      · have g1 := ne_of_none z hRW
        have := s _ _ z
        simp only [if_neg g1] at this
        show (if b' = RW then none else upd (upd H' b _) RW _ b') = _
        rw [if_neg g1, upd_ne g1, upd_ne (ne_of_none this hbn)]
        exact this
    rintro H1 ⟨bs, e1, lb, hb, nd, s1⟩
    have sm1 : Same H H1 := fun b o z => by
      have := s1 b o z
      simp only [if_neg (ne_of_none z hRW)] at this
      exact this
    obtain ⟨rw1, rw2⟩ := hA.ne hRW
    have hs1 : HS H H1 h c RW bs (List.replicate ls.length []) := ⟨hA.mono sm1, But.of sm1, e1, fun k b r e2 e3 => by
      obtain ⟨_, e3⟩ := List.getElem?_eq_some_iff.mp e3
      rw [List.getElem_replicate] at e3
      subst e3
      exact (hb b (List.mem_of_getElem? e2)).1, by rw [List.length_replicate, lb, lx], nd, hRW, fun b hb' => ⟨(hb b hb').2.1, (hb b hb').2.2⟩⟩
    refine ⟨_, rfl, h, c, 20, rfl, hs1.hand, by decide, by decide, fun y H2 y0 y1 hA2 b2 => ⟨_, _, rfl, rfl, ?_⟩⟩
    have hs2 := hs1.draw hA hA2 b2
    clear hs1 e1 hb s1 sm1 H1 hA2 b2 lb
    have hidle : 4 + y ≤ 23 := by omega
    refine ⟨fun σ' H' => ∃ (o5 o6 o7 o8 o9 o10 : Option V) (rows : List (List Int)), σ' = [some (.ref h), some (.ref pw), some (.ref q), some (.ref RW), some (.int (4 + y)), o5, o6, o7, o8, o9, o10, none, none] ∧ HS H H' h c RW bs rows ∧ HrOk rm tm ls rows, ?_, ?_⟩
    · refine ⟨1, 400, rfl, ⟨by omega, by omega⟩, for_range (lo := 1) (n := ((400 : Int) - 1).toNat) (fun i σ' H' => ∃ (o5 o6 o7 o8 o9 o10 : Option V) (rows : List (List Int)), σ' = [some (.ref h), some (.ref pw), some (.ref q), some (.ref RW), some (.int (4 + y)), o5, o6, o7, o8, o9, o10, none, none] ∧ HS H H' h c RW bs rows ∧ RowsOk tm ls rows ∧ MaxAt rows i ∧ NotFull rm ls rows ∧ Goes ls rows (tot rows) (1 + (i : Int)))
        ⟨_, _, _, _, _, _, _, rfl, hs2, ?_, ?_, ?_, ?_⟩ ?_ ?_⟩
      · refine ⟨by rw [List.length_replicate], fun k l r e2 e3 => ?_⟩
        obtain ⟨_, e3⟩ := List.getElem?_eq_some_iff.mp e3
        rw [List.getElem_replicate] at e3
        subst e3
        exact ⟨Nat.zero_le _, fun j hj => absurd hj (Nat.not_lt_zero _)⟩
      · intro r hr y hy
        rw [List.eq_of_mem_replicate hr] at hy; cases hy
      · intro road t hr
        rw [count_zero (x := t - 1) (fun r hr y hy => by rw [List.eq_of_mem_replicate hr] at hy; cases hy) (by omega)]
        have := W.br (rm.getD road 0) (by rw [List.getD_eq_getElem?_getD, List.getElem?_eq_getElem hr]; exact List.getElem_mem hr)
        show (0 : Int) ≤ _
        omega
      · exact goes_start ls _ fun r hr => List.eq_of_mem_replicate hr
      · rintro i σ' H3 hi ⟨o5, o6, o7, o8, o9, o10, rows0, rfl, hs3, R0, M0, N0, G0⟩
        have W3 := W.nl (hs3.nl hA)
        have nl3 := hs3.nl hA
        obtain ⟨t, et⟩ : ∃ t, t = 1 + (i : Int) := ⟨_, rfl⟩
        rw [← et] at G0 ⊢
        refine ⟨_, rfl, pw, _, 2, _, rfl, rfl, SqT.of (nl3.tup epw), atI_nat (j := 2) rfl, x3, _, rfl, .inr (SqT.of (nl3.tup ex3)), fun F hF => ?_⟩
        have hF0 : H F = none := hs3.but.free (fun z => by subst z; obtain ⟨_, _, _, _, _, e, _⟩ := hs3.hand; rw [hF] at e; cases e) hF
        have hFR : F ≠ RW := fun z => by subst z; rw [hs3.rw] at hF; cases hF
        have hFb : F ∉ bs := fun z => by
          obtain ⟨j, hj, ej⟩ := List.mem_iff_getElem.mp z
          have hj2 : j < rows0.length := by rw [← hs3.len]; exact hj
          have := hs3.row j F _ (by rw [List.getElem?_eq_getElem hj, ej]) (List.getElem?_eq_getElem hj2)
          rw [this] at hF; cases hF
        have hs4 := hs3.setA (o := .lst (rm.map V.int)) hA hF0 hFR hFb
        have eF4 : (upd H3 F (.lst (rm.map V.int))) F = some (.lst (rm.map V.int)) := upd_same
        generalize upd H3 F (.lst (rm.map V.int)) = H4 at hs4 eF4 ⊢
        have nl4 := hs4.nl hA
        refine ⟨_, rfl, q, _, rfl, .inr (SqT.of (nl4.tup eq)), _, rfl, RgOk.of_le (by decide) (by omega) (by decide) (by omega), fun O hO => ?_⟩
        have hO0 : H O = none := hs4.but.free (fun z => by subst z; obtain ⟨_, _, _, _, _, e, _⟩ := hs4.hand; rw [hO] at e; cases e) hO
        have hOR : O ≠ RW := fun z => by subst z; rw [hs4.rw] at hO; cases hO
        have hFO : F ≠ O := fun z => by subst z; rw [eF4] at hO; cases hO
        have hOb : O ∉ bs := fun z => by
          obtain ⟨j, hj, ej⟩ := List.mem_iff_getElem.mp z
          have hj2 : j < rows0.length := by rw [← hs4.len]; exact hj
          have := hs4.row j O _ (by rw [List.getElem?_eq_getElem hj, ej]) (List.getElem?_eq_getElem hj2)
          rw [this] at hO; cases hO
        have hs5 := hs4.setA (o := .lst (rgV 0 (xs.length : Nat))) hA hO0 hOR hOb
        have eO5 : (upd H4 O (.lst (rgV 0 (xs.length : Nat)))) O = some (.lst ((List.range ls.length).map fun j => V.int (j : Nat))) := by
          rw [upd_same, lx]
          unfold rgV
          rw [show (((ls.length : Nat) : Int) - 0).toNat = ls.length by omega]
          congr 3
          funext j
          rw [Int.zero_add]
        have eF5 : (upd H4 O (.lst (rgV 0 (xs.length : Nat)))) F = some (.lst (rm.map V.int)) := by rw [upd_ne hFO]; exact eF4
        generalize upd H4 O (.lst (rgV 0 (xs.length : Nat))) = H5 at hs5 eO5 eF5 ⊢
        have T0 : Tick tm rm ls rows0 rows0 (4 + y) t rm (List.range ls.length) := tick_start R0 (M0.mono (by omega)) N0 G0 rfl
        clear hs3 hs4 hF hO eF4 nl3 nl4 W3
        refine ⟨fun σ' H' => ∃ (o8 o9 o10 : Option V) (rows : List (List Int)) (fr : List Int), σ' = [some (.ref h), some (.ref pw), some (.ref q), some (.ref RW), some (.int (4 + y)), some (.int t), some (.ref F), some (.ref O), o8, o9, o10, none, none] ∧ HS H H' h c RW bs rows ∧ Tick tm rm ls rows0 rows (4 + y) t fr [], ?_, ?_⟩
        · refine ⟨fun m σ' H' => ∃ (rows : List (List Int)) (fr : List Int) (od : List Nat) (o8 o9 o10 : Option V), m = od.length ∧ od.length ≤ 60 ∧ σ' = [some (.ref h), some (.ref pw), some (.ref q), some (.ref RW), some (.int (4 + y)), some (.int t), some (.ref F), some (.ref O), o8, o9, o10, none, none] ∧ HS H H' h c RW bs rows ∧
              H' F = some (.lst (fr.map V.int)) ∧ H' O = some (.lst (od.map fun j => V.int (j : Nat))) ∧ Tick tm rm ls rows0 rows (4 + y) t fr od, ⟨_, rows0, rm, List.range ls.length, o8, o9, o10, rfl, by rw [List.length_range]; exact l60, rfl, hs5, eF5, eO5, T0⟩, ?_⟩
          clear hs5 eF5 eO5 T0 H5
          rintro m σ' H6 ⟨rows, fr, od, o8, o9, o10, rfl, lod, rfl, hs6, eF6, eO6, TT⟩
          refine ⟨_, rfl, O, _, rfl, .inl (SqL.of eO6), _, _, rfl, rfl, _, rfl, ?_⟩
          rw [List.length_map]
          by_cases g0 : od.length = 0
          · rw [decide_eq_false (show ¬ (0 : Int) < ((od.length : Nat) : Int) by omega)]
            have := List.eq_nil_of_length_eq_zero g0
            subst this
            exact iteF ⟨_, _, _, rows, fr, rfl, hs6, TT⟩
          rw [decide_eq_true (show (0 : Int) < ((od.length : Nat) : Int) by omega)]
          refine iteT ⟨fun σ' H' => ∃ m', m' < od.length ∧ ∃ (rows : List (List Int)) (fr : List Int) (od : List Nat) (o8 o9 o10 : Option V), m' = od.length ∧ od.length ≤ 60 ∧ σ' = [some (.ref h), some (.ref pw), some (.ref q), some (.ref RW), some (.int (4 + y)), some (.int t), some (.ref F), some (.ref O), o8, o9, o10, none, none] ∧ HS H H' h c RW bs rows ∧
              H' F = some (.lst (fr.map V.int)) ∧ H' O = some (.lst (od.map fun j => V.int (j : Nat))) ∧ Tick tm rm ls rows0 rows (4 + y) t fr od, fun _ _ z => z, ?_⟩
          refine ⟨_, rfl, .inl ⟨rfl, _, SqL.of eO6⟩, _, rfl, _, rfl, O, _, rfl, .inl (SqL.of eO6), h, c, _, rfl, hs6.hand, by rw [List.length_map]; omega, by rw [List.length_map]; omega, fun x H7 x0 x1 hA7 b7 => ?_⟩
          rw [List.length_map] at x1
          have hs7 := hs6.draw hA hA7 b7
          have eF7 := b7 _ _ eF6 (hA.ne hF0).1
          have eO7 := b7 _ _ eO6 (hA.ne hO0).1
          have hx : x.toNat < od.length := by omega
          obtain ⟨kk, ekk⟩ : ∃ kk, od[x.toNat]? = some kk := ⟨_, List.getElem?_eq_getElem hx⟩
          have hkl : kk < ls.length := TT.od_ kk (List.mem_of_getElem? ekk)
          refine ⟨O, _, x, x.toNat, .int (kk : Nat), rfl, rfl, eO7, by omega, by omega, seq_nat x0 (by rw [List.length_map]; omega), by rw [List.getElem?_map, ekk]; rfl, ?_⟩
          rw [map_erase]
          have hs8 := hs7.setA (o := .lst ((od.eraseIdx x.toNat).map fun j => V.int (j : Nat))) hA hO0 hOR hOb
          have eO8 : (upd H7 O (.lst ((od.eraseIdx x.toNat).map fun j => V.int (j : Nat)))) O = some (.lst ((od.eraseIdx x.toNat).map fun j => V.int (j : Nat))) := upd_same
          have eF8 : (upd H7 O (.lst ((od.eraseIdx x.toNat).map fun j => V.int (j : Nat)))) F = some (.lst (fr.map V.int)) := by rw [upd_ne hFO]; exact eF7
          generalize upd H7 O (.lst ((od.eraseIdx x.toNat).map fun j => V.int (j : Nat))) = H8 at hs8 eO8 eF8 ⊢
          have hlt : (od.eraseIdx x.toNat).length < od.length := by rw [List.length_eraseIdx_of_lt hx]; omega
          obtain ⟨l, el⟩ : ∃ l, ls[kk]? = some l := ⟨_, List.getElem?_eq_getElem hkl⟩
          have hkr : kk < rows.length := by rw [TT.R.len]; exact hkl
          obtain ⟨r, er⟩ : ∃ r, rows[kk]? = some r := ⟨_, List.getElem?_eq_getElem hkr⟩
          have hkb : kk < bs.length := by rw [hs8.len]; exact hkr
          obtain ⟨b, eb⟩ : ∃ b, bs[kk]? = some b := ⟨_, List.getElem?_eq_getElem hkb⟩
          obtain ⟨xv, exv, rxv⟩ := at_ kk l el
          have nl8 := hs8.nl hA
          have W8 := W.nl nl8
          have rx8 : Rp H8 h xv (ltD l) := rxv.nl nl8 (by show (noL (nD l.1) && (true && true)) = true; rw [noL_nD]; rfl)
          obtain ⟨oo1, oo2, oo3, oo4, oo5, oo6⟩ := o.h l (List.mem_of_getElem? el)
          have hle := (TT.R.one kk l r el er).1
          have row8 := hs8.row kk b r eb er
          refine ⟨_, rfl, _, rfl, _, rfl, q, _, _, _, rfl, rfl, SqT.of (nl8.tup eq), atI_nat exv, _, rfl, _, rfl, RW, _, _, _, rfl, rfl, SqL.of hs8.rw, atI_nat (by rw [List.getElem?_map, eb]; rfl), h, .ref pw, xv, n, rds, rm, tm, l, b, r, rfl, W8, rx8, row8, hle, oo3, ?_⟩
          unfold rdy
          have stay : ∀ (o9 o10 : Option V) (H' : Hp), HS H H' h c RW bs rows → H' F = some (.lst (fr.map V.int)) → H' O = some (.lst ((od.eraseIdx x.toNat).map fun j => V.int (j : Nat))) →
              (rows = rows0 → 4 + y < t → r.length = l.1.length ∨ t < nextAt tm l r) → ∃ m', m' < od.length ∧ ∃ (rows : List (List Int)) (fr : List Int) (od : List Nat) (p8 p9 p10 : Option V), m' = od.length ∧ od.length ≤ 60 ∧ ([some (.ref h), some (.ref pw), some (.ref q), some (.ref RW), some (.int (4 + y)), some (.int t), some (.ref F), some (.ref O), some (.int (kk : Nat)), o9, o10, none, none] : St) = [some (.ref h), some (.ref pw), some (.ref q), some (.ref RW), some (.int (4 + y)), some (.int t), some (.ref F), some (.ref O), p8, p9, p10, none, none] ∧ HS H H' h c RW bs rows ∧
              H' F = some (.lst (fr.map V.int)) ∧ H' O = some (.lst (od.map fun j => V.int (j : Nat))) ∧ Tick tm rm ls rows0 rows (4 + y) t fr od := fun o9 o10 H' a1 a2 a3 a4 => ⟨_, hlt, rows, fr, od.eraseIdx x.toNat, _, _, _, rfl, by omega, rfl, a1, a2, a3, TT.stay ekk fun z1 z2 l' r' f1 f2 => by
            rw [el] at f1; cases f1
            rw [er] at f2; cases f2
            exact a4 z1 z2⟩
          by_cases g1 : r.length = l.1.length
          · rw [if_pos g1]
            exact ⟨_, rfl, rfl, _, rfl, iteF (iteF (stay _ _ H8 hs8 eF8 eO8 fun _ _ => .inl g1))⟩
          rw [if_neg g1]
          have hl1 : r.length < l.1.length := by omega
          refine ⟨_, rfl, rfl, _, rfl, iteT ⟨_, rfl, _, rfl, _, _, rfl, rfl, _, rfl, ?_⟩⟩
          by_cases g2 : nextAt tm l r ≤ t
          rotate_left 1
          · rw [decide_eq_false g2]
            exact iteF (stay _ _ H8 hs8 eF8 eO8 fun _ _ => .inr (by omega))
          rw [decide_eq_true g2]
          obtain ⟨ql, al, rfl, eql, eal⟩ := lt_inv rx8
          have hrd : l.1.getD r.length 0 < rm.length := by rw [W.lr]; exact oo3 _ (nat_mem l.1 hl1)
          have hfl : l.1.getD r.length 0 < fr.length := by rw [TT.fl]; exact hrd
          refine iteT ⟨_, rfl, _, rfl, q, _, _, _, rfl, rfl, SqT.of (nl8.tup eq), atI_nat exv, ql, _, 0, _, rfl, rfl, SqT.of eql, atI_nat (j := 0) rfl, _, rfl, _, rfl, RW, _, _, _, rfl, rfl, SqL.of hs8.rw, atI_nat (by rw [List.getElem?_map, eb]; rfl), b, _, rfl, .inl (SqL.of row8), al, _, _, _, rfl, rfl, SqT.of eal, at_of (j := r.length) (by rw [List.length_map]) (nat_at l.1 hl1), ?_⟩
          refine ⟨_, rfl, _, rfl, F, _, _, _, rfl, rfl, SqL.of eF8, atI_nat (int_at fr hfl), _, _, rfl, rfl, _, rfl, ?_⟩
          by_cases g3 : 0 < fr.getD (l.1.getD r.length 0) 0
          rotate_left 1
          · rw [decide_eq_false g3]
            refine iteF (iteF (stay _ _ H8 hs8 eF8 eO8 fun z1 z2 => ?_))
            have f := TT.F _ hrd
            have m1 : (es ls rows).count (l.1.getD r.length 0, t) = 0 := by
              rw [z1]
              exact count_zero M0 (by omega)
            have := W.br (rm.getD (l.1.getD r.length 0) 0) (by rw [List.getD_eq_getElem?_getD, List.getElem?_eq_getElem hrd]; exact List.getElem_mem hrd)
            rw [m1] at f
            have f : fr.getD (l.1.getD r.length 0) 0 = rm.getD (l.1.getD r.length 0) 0 - (0 : Int) := f
            omega
          rw [decide_eq_true g3]
          refine iteT ⟨_, rfl, _, rfl, _, _, rfl, rfl, _, rfl, ?_⟩
          by_cases g4 : 4 + y < t
          · rw [decide_eq_true g4]
            refine iteT ?_
            have hs9 := hs8
            have eF9 := eF8
            have eO9 := eO8
            generalize H8 = H9 at hs9 eF9 eO9 ⊢

            have hF9 : H9 F = some (.lst (fr.map V.int)) := eF9
            have row9 := hs9.row kk b r eb er
            refine ⟨_, rfl, _, rfl, F, _, _, _, rfl, rfl, SqL.of hF9, atI_nat (int_at fr hfl), _, _, rfl, rfl, _, rfl, _, rfl, F, _, _, _, rfl, rfl, hF9, ixN_nat (by rw [List.length_map]; exact hfl), ?_⟩
            have nFb : b ≠ F := fun z => by subst z; exact hFb (List.mem_of_getElem? eb)
            have eF10 : (upd H9 F (.lst ((fr.map V.int).set (l.1.getD r.length 0) (.int (fr.getD (l.1.getD r.length 0) 0 - 1))))) F = some (.lst ((fr.set (l.1.getD r.length 0) (fr.getD (l.1.getD r.length 0) 0 - 1)).map V.int)) := by rw [upd_same, List.map_set]
            have hs10 := hs9.setA (o := .lst ((fr.map V.int).set (l.1.getD r.length 0) (.int (fr.getD (l.1.getD r.length 0) 0 - 1)))) hA hF0 hFR hFb
            have eO10 : (upd H9 F (.lst ((fr.map V.int).set (l.1.getD r.length 0) (.int (fr.getD (l.1.getD r.length 0) 0 - 1))))) O = some (.lst ((od.eraseIdx x.toNat).map fun j => V.int (j : Nat))) := by rw [upd_ne hFO.symm]; exact eO9
            generalize upd H9 F (.lst ((fr.map V.int).set (l.1.getD r.length 0) (.int (fr.getD (l.1.getD r.length 0) 0 - 1)))) = H10 at eF10 hs10 eO10 ⊢
            have row10 := hs10.row kk b r eb er
            refine ⟨_, rfl, _, rfl, RW, _, _, .ref b, rfl, rfl, SqL.of hs10.rw, atI_nat (by rw [List.getElem?_map, eb]; rfl), .inl ⟨rfl, _, SqL.of row10⟩, _, rfl, b, _, _, rfl, rfl, row10, by rw [List.length_map]; exact line_lt (by omega), ?_⟩
            refine ⟨_, hlt, rows.set kk (r ++ [t]), _, od.eraseIdx x.toNat, _, _, _, rfl, by omega, rfl, ?_, ?_, ?_, TT.pass el er hl1 g2 hrd g3⟩
            · have := hs10.put (r' := r ++ [t]) hA eb
              rw [List.map_append] at this
              exact this
            · rw [upd_ne nFb.symm]; exact eF10
            · have nO : O ≠ b := fun z => by subst z; exact hOb (List.mem_of_getElem? eb)
              rw [upd_ne nO]; exact eO10
          rw [decide_eq_false g4]
          refine iteF ⟨_, rfl, h, c, 3, rfl, hs8.hand, by decide, by decide, fun z H9 z0 z1 hA9 b9 => ⟨_, _, rfl, rfl, _, rfl, ?_⟩⟩
          have hs9 := hs8.draw hA hA9 b9
          have eF9 := b9 _ _ eF8 (hA.ne hF0).1
          have eO9 := b9 _ _ eO8 (hA.ne hO0).1
          refine ite2 (fun _ => ?_) (fun _ => stay _ _ H9 hs9 eF9 eO9 fun _ z2 => absurd z2 g4)
          · skip

            have hF9 : H9 F = some (.lst (fr.map V.int)) := eF9
            have row9 := hs9.row kk b r eb er
            refine ⟨_, rfl, _, rfl, F, _, _, _, rfl, rfl, SqL.of hF9, atI_nat (int_at fr hfl), _, _, rfl, rfl, _, rfl, _, rfl, F, _, _, _, rfl, rfl, hF9, ixN_nat (by rw [List.length_map]; exact hfl), ?_⟩
            have nFb : b ≠ F := fun z => by subst z; exact hFb (List.mem_of_getElem? eb)
            have eF10 : (upd H9 F (.lst ((fr.map V.int).set (l.1.getD r.length 0) (.int (fr.getD (l.1.getD r.length 0) 0 - 1))))) F = some (.lst ((fr.set (l.1.getD r.length 0) (fr.getD (l.1.getD r.length 0) 0 - 1)).map V.int)) := by rw [upd_same, List.map_set]
            have hs10 := hs9.setA (o := .lst ((fr.map V.int).set (l.1.getD r.length 0) (.int (fr.getD (l.1.getD r.length 0) 0 - 1)))) hA hF0 hFR hFb
            have eO10 : (upd H9 F (.lst ((fr.map V.int).set (l.1.getD r.length 0) (.int (fr.getD (l.1.getD r.length 0) 0 - 1))))) O = some (.lst ((od.eraseIdx x.toNat).map fun j => V.int (j : Nat))) := by rw [upd_ne hFO.symm]; exact eO9
            generalize upd H9 F (.lst ((fr.map V.int).set (l.1.getD r.length 0) (.int (fr.getD (l.1.getD r.length 0) 0 - 1)))) = H10 at eF10 hs10 eO10 ⊢
            have row10 := hs10.row kk b r eb er
            refine ⟨_, rfl, _, rfl, RW, _, _, .ref b, rfl, rfl, SqL.of hs10.rw, atI_nat (by rw [List.getElem?_map, eb]; rfl), .inl ⟨rfl, _, SqL.of row10⟩, _, rfl, b, _, _, rfl, rfl, row10, by rw [List.length_map]; exact line_lt (by omega), ?_⟩
            refine ⟨_, hlt, rows.set kk (r ++ [t]), _, od.eraseIdx x.toNat, _, _, _, rfl, by omega, rfl, ?_, ?_, ?_, TT.pass el er hl1 g2 hrd g3⟩
            · have := hs10.put (r' := r ++ [t]) hA eb
              rw [List.map_append] at this
              exact this
            · rw [upd_ne nFb.symm]; exact eF10
            · have nO : O ≠ b := fun z => by subst z; exact hOb (List.mem_of_getElem? eb)
              rw [upd_ne nO]; exact eO10
        clear hs5 eF5 eO5 T0 H5
        rintro σ' H6 ⟨o8, o9, o10, rows, fr, rfl, hs6, TT⟩
        have nl6 := hs6.nl hA
        refine ⟨_, rfl, q, _, rfl, .inr (SqT.of (nl6.tup eq)), (xs.length : Int), rfl, by omega, by omega, fun D1 hD1 => ?_⟩
        have hn : (xs.length : Int).toNat = ls.length := by omega
        refine lc_fr (j := 8) (n := (xs.length : Int).toNat) (fun kk => decide (((rows.getD kk []).length : Nat) < (ls.getD kk ([], 0)).1.length)) (by omega) hD1 ?_ ?_ ?_ ?_
        · exact fun x => rfl
        · intro kk hkk H' Q' s' kq
          have hkl : kk < ls.length := by omega
          obtain ⟨l, el⟩ : ∃ l, ls[kk]? = some l := ⟨_, List.getElem?_eq_getElem hkl⟩
          have hkr : kk < rows.length := by rw [TT.R.len]; exact hkl
          obtain ⟨r, er⟩ : ∃ r, rows[kk]? = some r := ⟨_, List.getElem?_eq_getElem hkr⟩
          have hkb : kk < bs.length := by rw [hs6.len]; exact hkr
          obtain ⟨b, eb⟩ : ∃ b, bs[kk]? = some b := ⟨_, List.getElem?_eq_getElem hkb⟩
          obtain ⟨xv, exv, rxv⟩ := at_ kk l el
          have rx8 : Rp H' h xv (ltD l) := (rxv.nl nl6 (by show (noL (nD l.1) && (true && true)) = true; rw [noL_nD]; rfl)).same s'
          obtain ⟨ql, al, rfl, eql, eal⟩ := lt_inv rx8
          refine ⟨_, rfl, _, rfl, RW, _, _, _, rfl, rfl, SqL.of (s' _ _ hs6.rw), at_of (j := kk) (by omega) (by rw [List.getElem?_map, eb]; rfl), b, _, rfl, .inl (SqL.of (s' _ _ (hs6.row kk b r eb er))), _, rfl, _, rfl, q, _, _, _, rfl, rfl, SqT.of (s' _ _ (nl6.tup eq)), at_of (j := kk) (by omega) exv, ql, _, 0, _, rfl, rfl, SqT.of eql, atI_nat (j := 0) rfl, al, _, rfl, .inr (SqT.of eal), _, _, rfl, rfl, _, rfl, ?_⟩
          rw [List.length_map, List.length_map]
          have g1 : rows.getD kk [] = r := by rw [List.getD_eq_getElem?_getD, er]; rfl
          have g2 : ls.getD kk ([], 0) = l := by rw [List.getD_eq_getElem?_getD, el]; rfl
          rw [g1, g2] at kq
          by_cases g : r.length < l.1.length
          · rw [decide_eq_true g] at kq
            rw [decide_eq_true (show ((r.length : Nat) : Int) < (l.1.length : Nat) by omega)]
            exact kq
          · rw [decide_eq_false g] at kq
            rw [decide_eq_false (show ¬ ((r.length : Nat) : Int) < (l.1.length : Nat) by omega)]
            exact kq
        · exact fun kk hkk H' Q' kq => ⟨_, rfl, kq⟩
        intro H7 s7 hD7
        rw [hn] at hD7
        obtain ⟨N, eN⟩ : ∃ N, N = (List.range ls.length).filter fun kk => decide (((rows.getD kk []).length : Nat) < (ls.getD kk ([], 0)).1.length) := ⟨_, rfl⟩
        rw [← eN] at hD7
        have hs7 : HS H H7 h c RW bs rows := ⟨hs6.hand.mono s7, hs6.but.trans (But.of s7), s7 _ _ hs6.rw, fun k b r e2 e3 => s7 _ _ (hs6.row k b r e2 e3), hs6.len, hs6.nd, hs6.f0, hs6.f1⟩
        refine ⟨D1, _, rfl, .inl (SqL.of hD7), rfl, _, rfl, ?_⟩
        rw [int_eqd, List.length_map]
        by_cases g : N.length = 0
        · rw [decide_eq_true (show ((N.length : Nat) : Int) = 0 by omega)]
          refine iteT ⟨_, _, _, _, _, _, rows, rfl, hs7, ⟨TT.R.len, fun kk l r el er => ⟨?_, (TT.R.one kk l r el er).2⟩, TT.N, TT.M.mono (by omega)⟩⟩
          have h1 := (TT.R.one kk l r el er).1
          refine Classical.byContradiction fun z => ?_
          have g1 : rows.getD kk [] = r := by rw [List.getD_eq_getElem?_getD, er]; rfl
          have g2 : ls.getD kk ([], 0) = l := by rw [List.getD_eq_getElem?_getD, el]; rfl
          have : kk ∈ N := by
            rw [eN, List.mem_filter, List.mem_range, g1, g2]
            exact ⟨(List.getElem?_eq_some_iff.mp el).1, decide_eq_true (by omega)⟩
          rw [List.eq_nil_of_length_eq_zero g] at this
          cases this
        · rw [decide_eq_false (show ¬ ((N.length : Nat) : Int) = 0 by omega)]
          obtain ⟨kk, hkk⟩ : ∃ kk, kk ∈ N := ⟨_, List.getElem_mem (show 0 < N.length by omega)⟩
          rw [eN, List.mem_filter, List.mem_range] at hkk
          obtain ⟨hkl, hkz⟩ := hkk
          have hkz := of_decide_eq_true hkz
          obtain ⟨l, el⟩ : ∃ l, ls[kk]? = some l := ⟨_, List.getElem?_eq_getElem hkl⟩
          have hkr : kk < rows.length := by rw [TT.R.len]; exact hkl
          obtain ⟨r, er⟩ : ∃ r, rows[kk]? = some r := ⟨_, List.getElem?_eq_getElem hkr⟩
          have g1 : rows.getD kk [] = r := by rw [List.getD_eq_getElem?_getD, er]; rfl
          have g2 : ls.getD kk ([], 0) = l := by rw [List.getD_eq_getElem?_getD, el]; rfl
          rw [g1, g2] at hkz
          have G1 := TT.ends hidle (fun x hx => (W.bt x hx).2) c20
          refine iteF ⟨_, _, _, _, _, _, rows, rfl, hs7, TT.R, TT.M.mono (by omega), TT.N, ?_⟩
          rw [show (1 : Int) + ((i + 1 : Nat) : Int) = t + 1 by omega]
          exact G1
      · rintro σ' H3 ⟨o5, o6, o7, o8, o9, o10, rows, rfl, hs3, R0, M0, N0, G0⟩
        have G0 : Goes ls rows (tot rows) 400 := G0
        exact ⟨_, _, _, _, _, _, rows, rfl, hs3, ⟨R0.len, fun kk l r el er => ⟨goes_end G0 R0 t120 (fun l hl => (o.h l hl).2.1) el er, (R0.one kk l r el er).2⟩, N0, M0.mono (by decide)⟩⟩
    clear hs2 H2
    rintro σ' H3 ⟨o5, o6, o7, o8, o9, o10, rows, rfl, hs3, ok⟩
    refine ⟨_, rfl, RW, rfl, ⟨_, SqL.of hs3.rw⟩, fun D1 hD1 => ?_⟩
    refine lc_list (K := K) (a := RW) (xs := bs.map V.ref) (fun i H' => Same H3 (fun b => if b = D1 then none else H' b) ∧ ∃ ys, H' D1 = some (.lst ys) ∧ RpA H' h ys ((rows.take i).map rowD))
      ⟨fun b o z => ?_, [], upd_same, by rw [List.take_zero]; exact .nil⟩ (fun i H' hi ⟨s, _⟩ => ?_) ?_ ?_
    · have nb := ne_of_none z hD1
      show (if b = D1 then none else upd H3 D1 _ b) = _
      rw [if_neg nb, upd_ne nb]; exact z
    · have z := s _ _ hs3.rw
      simp only [if_neg (ne_of_none hs3.rw hD1)] at z
      exact SqL.of z
    · rintro i x H' hx ⟨s, ys, hd, ra⟩
      have hi : i < bs.length := by
        have := (List.getElem?_eq_some_iff.mp hx).1
        rwa [List.length_map] at this
      have ex : x = .ref bs[i] := by
        rw [List.getElem?_map, List.getElem?_eq_getElem hi] at hx
        exact (Option.some.inj hx).symm
      subst ex
      have hir : i < rows.length := by rw [← hs3.len]; exact hi
      have e0 := hs3.row i bs[i] rows[i] (List.getElem?_eq_getElem hi) (List.getElem?_eq_getElem hir)
      have e1 := s _ _ e0
      simp only [if_neg (ne_of_none e0 hD1)] at e1
      have l60' : ys.length ≤ 60 := by
        have := ra.len
        rw [List.length_map, List.length_take] at this
        have := ok.len
        omega
      refine ⟨rfl, tyes ⟨_, rfl, bs[i], _, rfl, .inl ⟨SqL.of e1, fun l hl => ⟨ys, ?_, line_lt (by omega), fun b o z => ?_, ys ++ [.ref l], upd_same, ?_⟩⟩⟩⟩
      · have nl : l ≠ D1 := fun z => by subst z; rw [hd] at hl; cases hl
        rw [upd_ne nl.symm]; exact hd
      · have nb := ne_of_none z hD1
        have := s _ _ z
        simp only [if_neg nb] at this
        show (if b = D1 then none else upd (upd H' l _) D1 _ b) = _
        rw [if_neg nb, upd_ne nb, upd_ne (ne_of_none this hl)]
        exact this
      · have nl : l ≠ D1 := fun z => by subst z; rw [hd] at hl; cases hl
        rw [take_more (List.getElem?_eq_getElem hir), List.map_append]
        have s5 : Same H' (upd H' l (.tup (rows[i].map V.int))) := same_upd hl
        have e5 : (upd H' l (.tup (rows[i].map V.int))) D1 = some (.lst ys) := by rw [upd_ne nl.symm]; exact hd
        have hlen : rows[i].length ≤ 100000 := by
          have := ok.one i _ _ (List.getElem?_eq_getElem (by rw [← ok.len]; exact hir)) (List.getElem?_eq_getElem hir)
          have := (o.h _ (List.getElem_mem (show i < ls.length by rw [← ok.len]; exact hir))).2.1
          omega
        have rb : Rp (upd H' l (.tup (rows[i].map V.int))) h (.ref l) (rowD rows[i]) := .tup upd_same (by rw [List.length_map]; exact hlen) (RpA.ints _)
        refine ((ra.nl (NL.of s5) (noL_rows _)).app (.cons rb .nil)).nl (NL.upd e5) ?_
        have := noL_rows (rows.take i ++ [rows[i]])
        rwa [List.map_append] at this
    · rintro H4 ⟨s, ys, hd, ra⟩
      have sm : Same H3 H4 := fun b o z => by
        have := s b o z
        simp only [if_neg (ne_of_none z hD1)] at this
        exact this
      rw [List.length_map, hs3.len, List.take_length] at ra
      refine ⟨_, _, rfl, .inl ⟨SqL.of hd, fun qq hqq => ?_⟩⟩
      have s5 : Same H4 (upd H4 qq (.tup ys)) := same_upd hqq
      have := ra.len
      rw [List.length_map, ok.len] at this
      exact k (.ref qq) rows _ ((hs3.hand.mono sm).mono s5) (hs3.but.trans (But.of (sm.trans s5))) (.tup upd_same (by omega) (ra.nl (NL.of s5) (noL_rows rows))) ok
end
end Hc


set_option Elab.async false
set_option linter.all false
set_option maxRecDepth 100000
set_option maxHeartbeats 1000000
set_option autoImplicit false
namespace Hc
open PySem L2
abbrev rGtS : R2 := rI0 fun i j => .bl (decide (j < i))
theorem units1 {k : Nat} {A : Around} (r : Room (k + 1) A) : A.units + 1 < cLine := by have := r.un; omega
/-- a web's object at p, with its rooms and times -/
structure WebR (C : Addr) (H : Hp) (h p : Addr) (n : Int) (rds : List D) (rm tm : List Int) : Prop where
  ex : ∃ (dx : Addr) (v1 v2 v3 v4 : V), H p = some (.ins C dx (webF v1 v2 v3 v4)) ∧ Rp H h v2 (.tup rds) ∧ Rp H h v3 (.tup (rm.map D.int)) ∧ Rp H h v4 (.tup (tm.map D.int))
  all : rds.all (isBE n) = true
  l1 : 1 ≤ rds.length
  l2 : rds.length ≤ 24
  lr : rm.length = rds.length
  lt : tm.length = rds.length
  br : ∀ x ∈ rm, 1 ≤ x ∧ x ≤ 3
  bt : ∀ x ∈ tm, 1 ≤ x ∧ x ≤ 3
theorem WebR.nl {C : Addr} {H H' : Hp} {h p : Addr} {n : Int} {rds : List D} {rm tm : List Int} (w : WebR C H h p n rds rm tm) (k : NL H H') : WebR C H' h p n rds rm tm := by
  obtain ⟨⟨dx, v1, v2, v3, v4, e, r2, r3, r4⟩, a1, a2, a3, a4, a5, a6, a7⟩ := w
  exact ⟨⟨dx, v1, v2, v3, v4, k _ _ e (fun _ z => by cases z), r2.nl k (noL_be a1), r3.nl k (noL_int _), r4.nl k (noL_int _)⟩, a1, a2, a3, a4, a5, a6, a7⟩
theorem WebR.same {C : Addr} {H H' : Hp} {h p : Addr} {n : Int} {rds : List D} {rm tm : List Int} (w : WebR C H h p n rds rm tm) (s : Same H H') : WebR C H' h p n rds rm tm := w.nl (NL.of s)
theorem WebR.o {C : Addr} {H : Hp} {h p : Addr} {n : Int} {rds : List D} {rm tm : List Int} (w : WebR C H h p n rds rm tm) : WebO C H h p n rds := by
  obtain ⟨⟨dx, v1, v2, v3, v4, e, r2, r3, r4⟩, a1, a2, a3, _⟩ := w
  exact ⟨⟨dx, v1, v2, v3, v4, e, r2⟩, a1, a2, a3⟩
theorem wF_m (v1 v2 v3 v4 : V) : (webF v1 v2 v3 v4).lookup ("rooms" : Str) = some v3 := by
  have h2 : ¬ (("rooms" : Str) = "times") := by decide +kernel
  unfold webF
  rw [lookup_putF, if_neg h2, lookup_putF, if_pos rfl]
theorem wF_t (v1 v2 v3 v4 : V) : (webF v1 v2 v3 v4).lookup ("times" : Str) = some v4 := by
  unfold webF
  rw [lookup_putF, if_pos rfl]
def isLetter (rds : List D) : D → Bool
  | .tup [w, c] => isWay rds w && isBtw 1 1000000 c
  | _ => false
def areLetters (rds : List D) : D → Bool
  | .tup ds => decide (ds.length ≤ 60) && ds.all (isLetter rds)
  | _ => false
def areHours (ls : List Lt) : D → Bool
  | .tup ds => decide (ds.length = ls.length) && (ls.zip ds).all fun p => areInts (p.1.1.length : Nat) p.2
  | _ => false
theorem areLetters_tup (rds ds : List D) : areLetters rds (.tup ds) = (decide (ds.length ≤ 60) && ds.all (isLetter rds)) := rfl
theorem areHours_tup (ls : List Lt) (ds : List D) : areHours ls (.tup ds) = (decide (ds.length = ls.length) && (ls.zip ds).all fun p => areInts (p.1.1.length : Nat) p.2) := rfl
theorem two_of {d : D} (e : isTupN 2 d = true) : ∃ a b, d = .tup [a, b] := by
  cases d with
  | tup ds =>
    have h := of_decide_eq_true (show decide ((ds.length : Int) = 2) = true from e)
    match ds, h with
    | [a, b], _ => exact ⟨a, b, rfl⟩
    | [], h => simp at h
    | [_], h => simp at h
    | _ :: _ :: _ :: _, h => simp at h; omega
  | _ => exact Bool.noConfusion e
theorem not_two {rds : List D} {d : D} (e : isTupN 2 d = false) : isLetter rds d = false := by
  cases d with
  | tup ds =>
    have h := of_decide_eq_false (show decide ((ds.length : Int) = 2) = false from e)
    match ds, h with
    | [a, b], h => exact absurd rfl h
    | [], _ => rfl
    | [_], _ => rfl
    | _ :: _ :: _ :: _, _ => rfl
  | _ => rfl
section
variable {P : Program} {w : World} {K : PySem.W.Frag} {mg : Str → Option Value} {base : Heap}
theorem ok_is_letter (T : Tx K mg) : FnOk P w K mg base CX0 5 T.is_letter.f T.is_letter.fd ["web", "thing"] (spJudge T.Web.C isLetter) := by
  refine T.is_letter.F.ok sc_is_letter (fun vs H Q E h => ?_) (fun cdv A outer s H vs Q E hr h => ?_)
  · obtain ⟨_, p, n, rds, v, d, rfl, _⟩ := h
    rfl
  · obtain ⟨h, p, n, rds, v, d, rfl, W, r, k⟩ := h
    refine ⟨_, (pss_one (ps_ret (pe_and (pe_call (ok_is_pair T) (hr.mono (by decide)) rfl T.is_pair.g T.is_pair.F.kp T.is_pair.b .nil pass0 (pa_cons (pv 1) pa_nil)) (pe_and (pe_call (ok_is_way T) (hr.mono (by decide)) rfl T.is_way.g T.is_way.F.kp T.is_way.b .nil pass0 (pa_cons (pv 0) (pa_cons (pe_ix ix_tup (pv 1) pe_int (fun _ _ => rfl)) pa_nil))) (pe_one (pe_call (ok_is_between T) (hr.mono (by decide)) rfl T.is_between.g T.is_between.F.kp T.is_between.b .nil pass0 (pa_cons pe_int (pa_cons (pe_glob (v := .int 1000000) rfl T.c_LAST_TICK.choose_spec ⟨_, rfl⟩) (pa_cons (pe_ix ix_tup (pv 1) pe_int (fun _ _ => rfl)) pa_nil))))))))), ?_⟩
    refine ⟨_, rfl, h, v, d, rfl, r, _, rfl, ?_⟩
    cases e : isTupN 2 d with
    | false =>
      have := k H (Same.refl _)
      rw [not_two e] at this
      exact iteF this
    | true =>
      obtain ⟨a, b, rfl⟩ := two_of e
      obtain ⟨q, xs, rfl, eq, _, ra⟩ := tup_inv r
      cases ra with
      | cons r1 ra =>
      cases ra with
      | cons r2 ra =>
      cases ra
      refine iteT ⟨_, rfl, _, rfl, q, _, 0, _, rfl, rfl, SqT.of eq, atI_nat (j := 0) rfl, h, p, n, rds, _, a, rfl, W, r1, fun H1 s1 => ⟨_, rfl, ?_⟩⟩
      have el : isLetter rds (.tup [a, b]) = (isWay rds a && isBtw 1 1000000 b) := rfl
      rw [el] at k
      cases g : isWay rds a with
      | false =>
        rw [g] at k
        exact iteF (k H1 s1)
      | true =>
        rw [g] at k
        exact iteT ⟨_, rfl, q, _, 1, _, rfl, rfl, SqT.of (s1 _ _ eq), atI_nat (j := 1) rfl, h, 1, 1000000, _, b, rfl, r2.same s1, k H1 s1⟩
theorem ok_are_letters (T : Tx K mg) : FnOk P w K mg base CX0 6 T.are_letters.f T.are_letters.fd ["web", "thing"] (spJudge T.Web.C areLetters) := by
  refine T.are_letters.F.ok sc_are_letters (fun vs H Q E h => ?_) (fun cdv A outer s H vs Q E hr h => ?_)
  · obtain ⟨_, p, n, rds, v, d, rfl, _⟩ := h
    rfl
  · obtain ⟨h, p, n, rds, v, d, rfl, W, r, k⟩ := h
    refine ⟨_, (pss_one (ps_ret (pe_and (pe_callB call_isi (by rfl) T.n_isinstance (by decide +kernel) (pa_cons (pv 1) (pa_cons (pe_bltn (v := .ty "tuple") (by rfl) T.n_tuple (by decide +kernel) rfl) pa_nil))) (pe_and (pe_cmpR op_le (pe_callB call_len_seq (by rfl) T.n_len (by decide +kernel) (pa_cons (pv 1) pa_nil)) (pe_glob (v := .int 60) rfl T.c_MOST_LETTERS.choose_spec ⟨_, rfl⟩) (nomark _)) (pe_one (pe_callB (cr_all rfl) (by rfl) T.n_all (by decide +kernel) (pa_cons (pe_lc (own := [("letter", 2)]) (g := (gName 2)) (tt := tYes) rfl sc_are_letters.nd (pi_tup (pv 1)) (blkOk_by (own := [("letter", 2)]) (N := ["web", "thing", "letter"]) (sc := defScope s_are_letters) (by decide +kernel)) (fun _ _ _ _ _ => (pg_name (i := 2) sc_are_letters.nd rfl (Or.inl rfl))) (fun _ _ _ _ _ => pts_nil) (fun _ _ _ _ _ => (by exact (pe_call (ok_is_letter T) (hr.mono (by decide)) rfl T.is_letter.g T.is_letter.F.kp T.is_letter.b .nil pass0 (pa_cons (pv 0) (pa_cons (pv 2) pa_nil)))))) pa_nil))))))), ?_⟩
    refine ⟨_, rfl, _, _, _, _, _, rfl, .ty "tuple", r.ty, kit_ty (kitT d), _, rfl, ?_⟩
    cases r with
    | @tup _ xs ds e z ra =>
      refine iteT ⟨_, rfl, _, _, rfl, .inr (SqT.of e), _, _, rfl, rfl, _, rfl, ?_⟩
      rw [ra.len]
      by_cases h2 : ds.length ≤ 60
      · rw [decide_eq_true (show (ds.length : Int) ≤ 60 by omega)]
        refine iteT ⟨_, rfl, _, rfl, ⟨_, SqT.of e⟩, fun A hA => all_tup e z ra (isLetter rds) hA (fun x => rfl) (fun x d H' Q' _ sm rp q => ?_) (fun H' sm sl => ?_)⟩
        · exact ⟨_, rfl, _, rfl, h, p, n, rds, _, _, rfl, W.same sm, rp, q⟩
        · refine ⟨_, _, rfl, sl, ?_⟩
          rw [map_all]
          have := k H' sm
          rw [areLetters_tup, decide_eq_true h2] at this
          exact this
      · rw [decide_eq_false (show ¬ (ds.length : Int) ≤ 60 by omega)]
        have := k H (Same.refl _)
        rw [areLetters_tup, decide_eq_false h2] at this
        exact iteF this
    | _ => exact iteF (k H (Same.refl _))
def spAreHours : Sp := fun vs H Q _ => ∃ (h : Addr) (vl v : V) (ls : List Lt) (d : D), vs = [vl, v] ∧ Rp H h vl (ltsD ls) ∧ Rp H h v d ∧ ls.length ≤ 1000 ∧ ∀ H', Same H H' → Q (.bl (areHours ls d)) H'
theorem ok_are_hours (T : Tx K mg) : FnOk P w K mg base CX0 3 T.are_hours.f T.are_hours.fd ["letters", "thing"] spAreHours := by
  refine T.are_hours.F.ok sc_are_hours (fun vs H Q E h => ?_) (fun cdv A outer s H vs Q E hr h => ?_)
  · obtain ⟨_, _, _, _, _, rfl, _⟩ := h
    rfl
  · obtain ⟨h, vl, v, ls, d, rfl, rl, r, l1000, k⟩ := h
    obtain ⟨q, xs, rfl, eq, lx, at_⟩ := lts_at rl
    refine ⟨_, (pss_one (ps_ret (pe_and (pe_callB call_isi (by rfl) T.n_isinstance (by decide +kernel) (pa_cons (pv 1) (pa_cons (pe_bltn (v := .ty "tuple") (by rfl) T.n_tuple (by decide +kernel) rfl) pa_nil))) (pe_and (pe_cmpR op_eq (pe_callB call_len_seq (by rfl) T.n_len (by decide +kernel) (pa_cons (pv 1) pa_nil)) (pe_callB call_len_seq (by rfl) T.n_len (by decide +kernel) (pa_cons (pv 0) pa_nil)) (nomark _)) (pe_one (pe_callB (cr_all rfl) (by rfl) T.n_all (by decide +kernel) (pa_cons (pe_lc (own := [("row", 2), ("way", 3), ("_", 4)]) (g := (gTup K 2 (gCons (gTup K 2 (gCons (gName 3) (gCons (gName 4) gNil))) (gCons (gName 2) gNil)))) (tt := tYes) (te := (tCall spInts [] E0 (tCons (tCB (rLenS K) (tCons (tVar 3) tNil)) (tCons (tVar 2) tNil)))) rfl sc_are_hours.nd (RZ.pi_zipA (by rfl) T.n_zip (pa_cons (pv 0) (pa_cons (pv 1) pa_nil))) (blkOk_by (own := [("row", 2), ("way", 3), ("_", 4)]) (N := ["letters", "thing", "row", "way", "_"]) (sc := defScope s_are_hours) (by decide +kernel)) (fun _ _ _ _ _ => (pg_tup (by rfl) (pgs_cons (by exact (pg_tup (by rfl) (pgs_cons (pg_name (i := 3) sc_are_hours.nd rfl (Or.inl rfl)) (pgs_cons (pg_name (i := 4) sc_are_hours.nd rfl (Or.inl rfl)) pgs_nil)))) (pgs_cons (pg_name (i := 2) sc_are_hours.nd rfl (Or.inl rfl)) pgs_nil)))) (fun _ _ _ _ _ => pts_nil) (fun _ _ _ _ _ => (by exact (pe_call (ok_are_integers T) (hr.mono (by decide)) rfl T.are_integers.g T.are_integers.F.kp T.are_integers.b .nil pass0 (pa_cons (pe_callB call_len_seq (by rfl) T.n_len (by decide +kernel) (pa_cons (pv 3) pa_nil)) (pa_cons (pv 2) pa_nil)))))) pa_nil))))))), ?_⟩
    refine ⟨_, rfl, _, _, _, _, _, rfl, .ty "tuple", r.ty, kit_ty (kitT d), _, rfl, ?_⟩
    cases r with
    | @tup a ys ds e z ra =>
      refine iteT ⟨_, rfl, _, _, rfl, .inr (SqT.of e), _, rfl, q, _, rfl, .inr (SqT.of eq), rfl, _, rfl, ?_⟩
      have ly := ra.len
      rw [int_eqd]
      by_cases g : ds.length = ls.length
      · rw [decide_eq_true (show ((ys.length : Nat) : Int) = (xs.length : Nat) by omega)]
        refine iteT ⟨_, rfl, _, rfl, q, a, xs, ys, rfl, .inr ⟨SqT.of eq, SqT.of e, fun D hD => ?_⟩⟩
        have sm0 : ∀ {H' : Hp}, Same H (fun b => if b = D then none else H' b) → Same H H' := fun s b o q => by
          have r := s b o q
          simp only [if_neg (ne_of_none q hD)] at r
          exact r
        refine lc_zipT (xs := xs) (ys := ys) (fun i H' => Same H (fun b => if b = D then none else H' b) ∧ H' D = some (.lst ((((ls.zip ds).take i).map fun p => areInts (p.1.1.length : Nat) p.2).map V.bl)))
          ⟨fun b o z => ?_, upd_same⟩ (fun i H' ⟨s, _⟩ => ⟨SqT.of (sm0 s _ _ eq), SqT.of (sm0 s _ _ e)⟩) ?_ ?_
        · have nb := ne_of_none z hD
          show (if b = D then none else upd H D _ b) = _
          rw [if_neg nb, upd_ne nb]; exact z
        · rintro i x y TT H' hx hy ⟨s, hd⟩ hT
          have sm := sm0 s
          have hi : i < ls.length := by rw [← lx]; exact (List.getElem?_eq_some_iff.mp hx).1
          obtain ⟨l, el⟩ : ∃ l, ls[i]? = some l := ⟨_, List.getElem?_eq_getElem hi⟩
          obtain ⟨x', ex', rx⟩ := at_ i l el
          rw [hx] at ex'
          cases ex'
          obtain ⟨dy, edy, ry⟩ := ra.get hy
          obtain ⟨ql, al, rfl, eql, eal⟩ := lt_inv rx
          have s1 : Same H' (upd H' TT (.tup [.ref ql, y])) := same_upd hT
          have s2 := sm.trans s1
          have nT : D ≠ TT := fun z => by subst z; rw [hd] at hT; cases hT
          have ez : (ls.zip ds)[i]? = some (l, dy) := by rw [List.getElem?_zip_eq_some]; exact ⟨el, edy⟩
          refine ⟨TT, _, rfl, SqT.of upd_same, rfl, _, _, rfl, ⟨ql, _, rfl, SqT.of (s2 _ _ eql), rfl, _, _, rfl, _, _, rfl, rfl, _, _, rfl, rfl, rfl, tyes ⟨_, rfl, al, _, rfl, .inr (SqT.of (s2 _ _ eal)), _, rfl, h, _, y, dy, rfl, ry.same s2, fun H3 s3 => ⟨_, s3 _ _ (s1 _ _ hd), ?_, fun b o z => ?_, ?_⟩⟩⟩⟩
          · rw [List.length_map, List.length_map, List.length_take, List.length_zip]; exact line_lt (by omega)
          · have nb := ne_of_none z hD
            show (if b = D then none else upd H3 D _ b) = _
            rw [if_neg nb, upd_ne nb]
            exact s3 _ _ (s2 _ _ z)
          · rw [upd_same, take_more ez, List.map_append, List.map_append, List.length_map]; rfl
        · rintro H' ⟨s, hd⟩
          have : min xs.length ys.length = (ls.zip ds).length := by rw [List.length_zip]; omega
          rw [this, List.take_length] at hd
          refine ⟨_, _, rfl, SqL.of hd, ?_⟩
          have := k H' (sm0 s)
          rw [areHours_tup, decide_eq_true g, Bool.true_and] at this
          have em : ((ls.zip ds).map fun p => areInts (p.1.1.length : Nat) p.2).all id = (ls.zip ds).all fun p => areInts (p.1.1.length : Nat) p.2 := by rw [List.all_map]; rfl
          rw [em]
          exact this
      · rw [decide_eq_false (show ¬ ((ys.length : Nat) : Int) = (xs.length : Nat) by omega)]
        have := k H (Same.refl _)
        rw [areHours_tup, decide_eq_false g] at this
        exact iteF this
    | _ => exact iteF (k H (Same.refl _))
end
end Hc


set_option Elab.async false
set_option linter.all false
set_option maxRecDepth 100000
set_option maxHeartbeats 1000000
set_option autoImplicit false
namespace Hc
open PySem L2
theorem cut_last {xs : List V} : cutV xs none (some (-1)) = xs.take (xs.length - 1) := by
  have s1 : HT.sIx xs.length 0 none = 0 := rfl
  have s2 : HT.sIx xs.length xs.length (some (-1)) = xs.length - 1 := by
    show (if (-1 : Int) < 0 then ((-1 : Int) + (xs.length : Int)).toNat else min (-1 : Int).toNat xs.length) = _
    rw [if_pos (by decide)]; omega
  unfold cutV
  rw [s1, s2, List.drop_zero, Nat.sub_zero]
theorem slLast {K : PySem.W.Frag} {H : Hp} {a : Addr} {xs : List V} {Q : VK} (e : H a = some (.tup xs)) (k : ∀ b H', Same H H' → H' b = some (.tup (xs.take (xs.length - 1))) → Q (.ref b) H') : rSlA K (.ref a) none (some (-1)) H Q := by
  have s1 : HT.sIx xs.length 0 none = 0 := rfl
  have s2 : HT.sIx xs.length xs.length (some (-1)) = xs.length - 1 := by
    show (if (-1 : Int) < 0 then ((-1 : Int) + (xs.length : Int)).toNat else min (-1 : Int).toNat xs.length) = _
    rw [if_pos (by decide)]; omega
  refine ⟨a, xs, rfl, SqT.of e, fun hw => ?_, fun _ p hp => ?_⟩
  · have h0 : xs.length = 0 := by
      rw [s2] at hw; omega
    have : xs = [] := List.eq_nil_of_length_eq_zero h0
    subst this
    exact k a H (Same.refl H) e
  · exact k p _ (same_upd hp) (by rw [upd_same, cut_last])
/-- [f(a, b) for a, b in zip(t, l)], a tuple and a list -/
theorem lc_zipM {K : PySem.W.Frag} {a b : Addr} {xs ys : List V} {g : TG} {tt : TT} {te : TE} {vs : List Nat} {σ : St} {H1 : Hp} {D : Addr} {Qd : Hp → Prop} (Pv : Nat → Hp → Prop) (h0 : Pv 0 (upd H1 D (.lst [])))
    (hl : ∀ i H, Pv i H → SqT K H a xs ∧ SqL K H b ys)
    (hs : ∀ (i : Nat) (x y : V) (T : Addr) (H : Hp), xs[i]? = some x → ys[i]? = some y → Pv i H → H T = none → g (.ref T) (wipe σ vs) (upd H T (.tup [x, y])) fun σ2 H2 => wipe σ2 vs = wipe σ vs ∧ tt σ2 H2 fun b H3 =>
      if b = true then te σ2 H3 fun y H4 => ∃ acc, H4 D = some (.lst acc) ∧ acc.length < sizeLine ∧ Pv (i + 1) (upd H4 D (.lst (acc ++ [y]))) else Pv (i + 1) H3) (hd : ∀ H, Pv (min xs.length ys.length) H → Qd H) :
    ∃ W : Nat → Nat → Hp → Prop, (∃ m, W 0 m (upd H1 D (.lst []))) ∧ ∀ i m H, W i m H →
      ((ItzM K a b).stop i H ∧ Qd H) ∨ ((ItzM K a b).go i H ∧ ∃ Nx : Hp → Prop, (∀ H', Nx H' → ∃ m', m' < m ∧ W (i + 1) m' H') ∧ ∀ x H', (ItzM K a b).yld i H x H' → g x (wipe σ vs) H' fun σ2 H2 => wipe σ2 vs = wipe σ vs ∧ tt σ2 H2 fun b H3 =>
        if b = true then te σ2 H3 fun y H4 => ∃ acc, H4 D = some (.lst acc) ∧ acc.length < sizeLine ∧ Nx (upd H4 D (.lst (acc ++ [y]))) else Nx H3) := by
  refine ⟨fun i m H => m = min xs.length ys.length - i ∧ i ≤ min xs.length ys.length ∧ Pv i H, ⟨_, rfl, Nat.zero_le _, h0⟩, ?_⟩
  rintro i m H ⟨rfl, hi, p⟩
  obtain ⟨qx, qy⟩ := hl i H p
  by_cases hlt : i < min xs.length ys.length
  · have h1 : i < xs.length := by omega
    have h2 : i < ys.length := by omega
    refine .inr ⟨⟨xs, ys, _, _, qx, qy, List.getElem?_eq_getElem h1, List.getElem?_eq_getElem h2⟩, Pv (i + 1), fun H' p' => ⟨min xs.length ys.length - (i + 1), by omega, rfl, hlt, p'⟩, fun v H' y => ?_⟩
    obtain ⟨T, x', y', rfl, hT, rfl, f1, f2⟩ := y
    exact hs i x' y' T H (f1 xs qx) (f2 ys qy) p hT
  · have e : i = min xs.length ys.length := by omega
    subst e
    exact .inl ⟨⟨xs, ys, qx, qy, by omega, by omega, by omega⟩, hd H p⟩
/-- the first ticks of a letter -/
def firstL (tm : List Int) (l : Lt) (r : List Int) : List Int := l.2 :: (l.1.zip (r.take (r.length - 1))).map fun p => p.2 + tm.getD p.1 0
def earlyB (tm : List Int) (ls : List Lt) (rows : List (List Int)) : Bool := (ls.zip rows).any fun p => (p.2.zip (firstL tm p.1 p.2)).any fun q => decide (q.1 < q.2)
theorem mask {H H' : Hp} {D : Addr} (hD : H D = none) (s : Same H (fun b => if b = D then none else H' b)) : Same H H' := fun b o q => by
  have r := s b o q
  simp only [if_neg (ne_of_none q hD)] at r
  exact r
theorem mask_upd {H H4 : Hp} {D : Addr} {o : HO} (hD : H D = none) (s : Same H H4) : Same H (fun b => if b = D then none else upd H4 D o b) := fun b u z => by
  have nb := ne_of_none z hD
  show (if b = D then none else upd H4 D o b) = _
  rw [if_neg nb, upd_ne nb]
  exact s _ _ z
section
variable {P : Program} {w : World} {K : PySem.W.Frag} {mg : Str → Option Value} {base : Heap}
def spFirst (C : Addr) : Sp := fun vs H Q _ => ∃ (h p b : Addr) (vl : V) (n : Int) (rds : List D) (rm tm : List Int) (l : Lt) (r : List Int), vs = [.ref p, vl, .ref b] ∧ WebR C H h p n rds rm tm ∧ Rp H h vl (ltD l) ∧ H b = some (.tup (r.map V.int)) ∧ (∀ j ∈ l.1, j < rds.length) ∧ l.1.length ≤ 1000 ∧
  ∀ F H', Same H H' → H F = none → H' F = some (.lst ((firstL tm l r).map V.int)) → Q (.ref F) H'
theorem ok_first_ticks (T : Tx K mg) : FnOk P w K mg base CX0 1 T.first_ticks.f T.first_ticks.fd ["web", "letter", "row"] (spFirst T.Web.C) := by
  refine T.first_ticks.F.ok sc_first_ticks (fun vs H Q E h => ?_) (fun cdv A outer s H vs Q E hr h => ?_)
  · obtain ⟨_, _, _, _, _, _, _, _, _, _, rfl, _⟩ := h
    rfl
  · obtain ⟨h, p, b, vl, n, rds, rm, tm, l, r, rfl, W, rl, eb, hj, l1000, k⟩ := h
    obtain ⟨ql, al, rfl, eql, eal⟩ := lt_inv rl
    obtain ⟨dx, v1, v2, v3, v4, hp, _, _, r4⟩ := W.ex
    obtain ⟨pt, ts, rfl, et, _, rt⟩ := tup_inv r4
    rw [rt.ints_inv] at et
    refine ⟨_, (pss_cons (ps_asg (pv 1) (pg_tup (by rfl) (pgs_cons (pg_name (i := 3) sc_first_ticks.nd rfl (Or.inl rfl)) (pgs_cons (pg_name (i := 4) sc_first_ticks.nd rfl (Or.inl rfl)) pgs_nil))))
      (pss_one (ps_ret (pe_op op_cat (pe_lst (pa_cons (pv 4) pa_nil)) (pe_lc (own := [("road", 5), ("hour", 6)]) (g := (gTup K 2 (gCons (gName 5) (gCons (gName 6) gNil)))) (tt := tYes) (te := (tOp (rI0 fun i j => .int (i + j)) (tVar 6) (tOp (rIxT K) (tFld K (tVar 0) "times") (tVar 5)))) rfl sc_first_ticks.nd (RZ.pi_zipA (by rfl) T.n_zip (pa_cons (pv 3) (pa_cons (pe_slice sl_tupA (pv 2) po_none (po_some (pe_un un_neg pe_int))) pa_nil))) (blkOk_by (own := [("road", 5), ("hour", 6)]) (N := ["web", "letter", "row", "way", "come", "road", "hour"]) (sc := defScope s_first_ticks) (by decide +kernel)) (fun _ _ _ _ _ => (pg_tup (by rfl) (pgs_cons (pg_name (i := 5) sc_first_ticks.nd rfl (Or.inl rfl)) (pgs_cons (pg_name (i := 6) sc_first_ticks.nd rfl (Or.inl rfl)) pgs_nil)))) (fun _ _ _ _ _ => pts_nil) (fun _ _ _ _ _ => (by exact (pe_op op_add (pv 6) (pe_ix ix_tup (pe_fld (pv 0) rfl) (pv 5) (fun _ _ => rfl)))))))))), ?_⟩
    refine ⟨_, rfl, ql, _, rfl, SqT.of eql, rfl, _, _, rfl, _, _, rfl, rfl, ?_⟩
    refine ⟨_, rfl, by show 1 ≤ sizeLine; decide, fun p1 hp1 => ?_⟩
    have s1 : Same H (upd H p1 (.lst [.int l.2])) := same_upd hp1
    have e1 : (upd H p1 (.lst [.int l.2])) p1 = some (.lst [.int l.2]) := upd_same
    generalize upd H p1 (.lst [.int l.2]) = H1 at s1 e1 ⊢
    refine ⟨_, rfl, _, rfl, _, rfl, _, rfl, ?_⟩
    refine slLast (s1 _ _ eb) fun q2 H2 s2 e2 => ?_
    rw [List.length_map, ← List.map_take] at e2
    have s02 := s1.trans s2
    refine ⟨al, q2, _, _, rfl, .inr ⟨SqT.of (s02 _ _ eal), SqT.of e2, fun D hD => ?_⟩⟩
    refine lc_zipT (xs := l.1.map fun j => V.int (j : Nat)) (ys := (r.take (r.length - 1)).map V.int) (fun i H' => Same H2 (fun b => if b = D then none else H' b) ∧ H' D = some (.lst ((((l.1.zip (r.take (r.length - 1))).take i).map fun p => p.2 + tm.getD p.1 0).map V.int)))
      ⟨mask_upd hD (Same.refl _), upd_same⟩ (fun i H' ⟨s, _⟩ => ⟨SqT.of (mask hD s _ _ (s02 _ _ eal)), SqT.of (mask hD s _ _ e2)⟩) ?_ ?_
    · rintro i x y TT H' hx hy ⟨s, hd⟩ hT
      have sm := mask hD s
      have hi : i < l.1.length := by
        have := (List.getElem?_eq_some_iff.mp hx).1
        rwa [List.length_map] at this
      have hi2 : i < (r.take (r.length - 1)).length := by
        have := (List.getElem?_eq_some_iff.mp hy).1
        rwa [List.length_map] at this
      have ex : x = .int (l.1[i] : Nat) := by
        rw [List.getElem?_map, List.getElem?_eq_getElem hi] at hx
        exact (Option.some.inj hx).symm
      have ey : y = .int (r.take (r.length - 1))[i] := by
        rw [List.getElem?_map, List.getElem?_eq_getElem hi2] at hy
        exact (Option.some.inj hy).symm
      subst ex ey
      have st : Same H' (upd H' TT (.tup [.int (l.1[i] : Nat), .int (r.take (r.length - 1))[i]])) := same_upd hT
      have s3 := sm.trans st
      have s03 := s02.trans s3
      have hr' : l.1[i] < tm.length := by rw [W.lt]; exact hj _ (List.getElem_mem hi)
      have ez : (l.1.zip (r.take (r.length - 1)))[i]? = some (l.1[i], (r.take (r.length - 1))[i]) := by rw [List.getElem?_zip_eq_some]; exact ⟨List.getElem?_eq_getElem hi, List.getElem?_eq_getElem hi2⟩
      refine ⟨TT, _, rfl, SqT.of upd_same, rfl, _, _, rfl, _, _, rfl, rfl, rfl, tyes ⟨_, rfl, _, rfl, p, T.Web.C, dx, _, _, rfl, s03 _ _ hp, T.Web.cl, T.Web.no _ (by simp), wF_t _ _ _ _, _, rfl, pt, _, _, _, rfl, rfl, SqT.of (s03 _ _ et), atI_nat (int_at tm hr'), _, _, rfl, rfl, _, st _ _ hd, ?_, ?_, ?_⟩⟩
      · rw [List.length_map, List.length_map, List.length_take, List.length_zip]; exact line_lt (by omega)
      · exact mask_upd hD s3
      · rw [upd_same, take_more ez, List.map_append, List.map_append]; rfl
    · rintro H' ⟨s, hd⟩
      rw [show min (l.1.map fun j => V.int (j : Nat)).length ((r.take (r.length - 1)).map V.int).length = (l.1.zip (r.take (r.length - 1))).length by rw [List.length_map, List.length_map, List.length_zip], List.take_length] at hd
      have sm := mask hD s
      have lz := List.length_zip (l₁ := l.1) (l₂ := r.take (r.length - 1))
      refine ⟨p1, D, _, _, rfl, rfl, sm _ _ (s2 _ _ e1), hd, by rw [List.length_map, List.length_map]; exact line_le (by show 1 + _ ≤ 100000; omega), fun c hc => ?_⟩
      have sA : Same H H' := s02.trans sm
      refine k c _ (sA.trans (same_upd hc)) ?_ upd_same
      cases z : H c with
      | none => rfl
      | some o => rw [sA _ _ z] at hc; cases hc
def spEarly (C : Addr) : Sp := fun vs H Q _ => ∃ (h p b : Addr) (vl : V) (n : Int) (rds : List D) (rm tm : List Int) (ls : List Lt) (rows : List (List Int)), vs = [.ref p, vl, .ref b] ∧ WebR C H h p n rds rm tm ∧ Rp H h vl (ltsD ls) ∧ Rp H h (.ref b) (rowsD rows) ∧ LsOk rds ls ∧ rows.length = ls.length ∧
  (∀ r ∈ rows, r.length ≤ 1000) ∧ ∀ H', Same H H' → Q (.bl (earlyB tm ls rows)) H'
theorem rows_at {H : Hp} {h : Addr} {v : V} {rows : List (List Int)} (r : Rp H h v (rowsD rows)) : ∃ q xs, v = .ref q ∧ H q = some (.tup xs) ∧ xs.length = rows.length ∧ ∀ (k : Nat) (r : List Int), rows[k]? = some r → ∃ b, xs[k]? = some (.ref b) ∧ H b = some (.tup (r.map V.int)) := by
  obtain ⟨q, xs, rfl, e, _, ra⟩ := tup_inv r
  have hl := ra.len
  rw [List.length_map] at hl
  refine ⟨q, xs, rfl, e, hl, fun k r hk => ?_⟩
  have hk' : k < xs.length := by rw [hl]; exact (List.getElem?_eq_some_iff.mp hk).1
  obtain ⟨d, h1, h2⟩ := ra.get (List.getElem?_eq_getElem hk')
  rw [List.getElem?_map, hk] at h1
  cases h1
  obtain ⟨b, ys, eb, e2, _, rb⟩ := tup_inv h2
  rw [rb.ints_inv] at e2
  exact ⟨b, by rw [List.getElem?_eq_getElem hk', eb], e2⟩
theorem any_take {α : Type} {l : List α} {i : Nat} {x : α} (f : α → Bool) (h : l[i]? = some x) : (l.take (i + 1)).any f = ((l.take i).any f || f x) := by
  rw [take_more h, List.any_append, List.any_cons, List.any_nil, Bool.or_false]
theorem ok_some_early (T : Tx K mg) : FnOk P w K mg base CX0 2 T.some_early.f T.some_early.fd ["web", "letters", "hours"] (spEarly T.Web.C) := by
  refine T.some_early.F.ok sc_some_early (fun vs H Q E h => ?_) (fun cdv A outer s H vs Q E hr h => ?_)
  · obtain ⟨_, _, _, _, _, _, _, _, _, _, rfl, _⟩ := h
    rfl
  · obtain ⟨h, p, b, vl, n, rds, rm, tm, ls, rows, rfl, W, rl, rr, o, ll, r1000, k⟩ := h
    obtain ⟨q, xs, rfl, eq, lx, at_⟩ := lts_at rl
    obtain ⟨_, ys, eb, er, ly, rat⟩ := rows_at rr
    cases eb
    refine ⟨_, (pss_cons (ps_for PassesOwn.never rfl (RZ.pi_zipA (by rfl) T.n_zip (pa_cons (pv 1) (pa_cons (pv 2) pa_nil))) (pg_tup (by rfl) (pgs_cons (pg_name (i := 3) sc_some_early.nd rfl (Or.inl rfl)) (pgs_cons (pg_name (i := 4) sc_some_early.nd rfl (Or.inl rfl)) pgs_nil)))
      (pss_one (ps_if (pt_val (pe_callB (cr_any rfl) (by rfl) T.n_any (by decide +kernel) (pa_cons (pe_lc (own := [("hour", 5), ("first", 6)]) (g := (gTup K 2 (gCons (gName 5) (gCons (gName 6) gNil)))) (tt := tYes) rfl sc_some_early.nd (pi_zipM (by rfl) T.n_zip (pa_cons (pv 4) (pa_cons (pe_call (ok_first_ticks T) (hr.mono (by decide)) rfl T.first_ticks.g T.first_ticks.F.kp T.first_ticks.b .nil pass0 (pa_cons (pv 0) (pa_cons (pv 3) (pa_cons (pv 4) pa_nil)))) pa_nil))) (blkOk_by (own := [("hour", 5), ("first", 6)]) (N := ["web", "letters", "hours", "letter", "row", "hour", "first"]) (sc := defScope s_some_early) (by decide +kernel)) (fun _ _ _ _ _ => (pg_tup (by rfl) (pgs_cons (pg_name (i := 5) sc_some_early.nd rfl (Or.inl rfl)) (pgs_cons (pg_name (i := 6) sc_some_early.nd rfl (Or.inl rfl)) pgs_nil)))) (fun _ _ _ _ _ => pts_nil) (fun _ _ _ _ _ => (by exact (pe_cmpR op_lt (pv 5) (pv 6) (nomark _))))) pa_nil)))
      (pss_one (ps_ret pe_bl))
      pss_nil)))
      (pss_one (ps_ret pe_bl))), ?_⟩
    refine ⟨_, rfl, _, rfl, q, b, xs, ys, rfl, .inr ⟨SqT.of eq, SqT.of er, RZ.for_zipT (xs := xs) (ys := ys) (by omega) (fun i σ' H' => ∃ o3 o4 : Option V, σ' = [some (.ref p), some (.ref q), some (.ref b), o3, o4, none, none] ∧ Same H H' ∧ ((ls.zip rows).take i).any (fun p => (p.2.zip (firstL tm p.1 p.2)).any fun q => decide (q.1 < q.2)) = false)
      ⟨_, _, rfl, Same.refl _, rfl⟩ (fun i σ' H' ⟨_, _, _, s, _⟩ => ⟨SqT.of (s _ _ eq), SqT.of (s _ _ er)⟩) ?_ ?_⟩⟩
    · rintro i x y TT σ' H1 hx hy ⟨o3, o4, rfl, s1, hb⟩ hT
      have hi : i < ls.length := by rw [← lx]; exact (List.getElem?_eq_some_iff.mp hx).1
      obtain ⟨l, el⟩ : ∃ l, ls[i]? = some l := ⟨_, List.getElem?_eq_getElem hi⟩
      obtain ⟨r, er'⟩ : ∃ r, rows[i]? = some r := ⟨_, List.getElem?_eq_getElem (by omega)⟩
      obtain ⟨x', ex', rx⟩ := at_ i l el
      rw [hx] at ex'
      cases ex'
      obtain ⟨b2, eb2, ey⟩ := rat i r er'
      rw [hy] at eb2
      cases eb2
      have st : Same H1 (upd H1 TT (.tup [x, .ref b2])) := same_upd hT
      have s2 := s1.trans st
      have ez : (ls.zip rows)[i]? = some (l, r) := by rw [List.getElem?_zip_eq_some]; exact ⟨el, er'⟩
      obtain ⟨oo1, oo2, oo3, _⟩ := o.h l (List.mem_of_getElem? el)
      have hr1000 := r1000 r (List.mem_of_getElem? er')
      refine ⟨TT, _, rfl, SqT.of upd_same, rfl, _, _, rfl, _, _, rfl, rfl, ?_⟩
      generalize upd H1 TT (.tup [x, .ref b2]) = H2 at st s2 ⊢
      refine ⟨_, rfl, _, rfl, _, rfl, _, rfl, h, p, b2, x, n, rds, rm, tm, l, r, rfl, W.same s2, rx.same s2, s2 _ _ ey, oo3, by omega, fun F H3 s3 nF eF => ?_⟩
      have s13 := s2.trans s3
      refine ⟨b2, F, _, _, rfl, SqT.of (s13 _ _ ey), SqL.of eF, fun D hD => ?_⟩
      refine lc_zipM (xs := r.map V.int) (ys := (firstL tm l r).map V.int) (fun i H' => Same H3 (fun b => if b = D then none else H' b) ∧ H' D = some (.lst ((((r.zip (firstL tm l r)).take i).map fun q => decide (q.1 < q.2)).map V.bl)))
        ⟨mask_upd hD (Same.refl _), upd_same⟩ (fun i H' ⟨s, _⟩ => ⟨SqT.of (mask hD s _ _ (s13 _ _ ey)), SqL.of (mask hD s _ _ eF)⟩) ?_ ?_
      · rintro j x y TT' H' hx hy ⟨s, hd⟩ hT'
        have sm := mask hD s
        have hi1 : j < r.length := by
          have := (List.getElem?_eq_some_iff.mp hx).1
          rwa [List.length_map] at this
        have hi2 : j < (firstL tm l r).length := by
          have := (List.getElem?_eq_some_iff.mp hy).1
          rwa [List.length_map] at this
        have ex : x = .int r[j] := by
          rw [List.getElem?_map, List.getElem?_eq_getElem hi1] at hx
          exact (Option.some.inj hx).symm
        have ey : y = .int (firstL tm l r)[j] := by
          rw [List.getElem?_map, List.getElem?_eq_getElem hi2] at hy
          exact (Option.some.inj hy).symm
        subst ex ey
        have st' : Same H' (upd H' TT' (.tup [.int r[j], .int (firstL tm l r)[j]])) := same_upd hT'
        have ez' : (r.zip (firstL tm l r))[j]? = some (r[j], (firstL tm l r)[j]) := by rw [List.getElem?_zip_eq_some]; exact ⟨List.getElem?_eq_getElem hi1, List.getElem?_eq_getElem hi2⟩
        refine ⟨TT', _, rfl, SqT.of upd_same, rfl, _, _, rfl, _, _, rfl, rfl, rfl, tyes ⟨_, rfl, _, rfl, _, _, rfl, rfl, _, st' _ _ hd, ?_, ?_, ?_⟩⟩
        · rw [List.length_map, List.length_map, List.length_take, List.length_zip]; exact line_lt (by omega)
        · exact mask_upd hD (sm.trans st')
        · rw [upd_same, take_more ez', List.map_append, List.map_append]; rfl
      · rintro H' ⟨s, hd⟩
        rw [show min (r.map V.int).length ((firstL tm l r).map V.int).length = (r.zip (firstL tm l r)).length by rw [List.length_map, List.length_map, List.length_zip], List.take_length] at hd
        have sm := mask hD s
        refine ⟨_, _, rfl, SqL.of hd, _, rfl, ?_⟩
        have em : ((r.zip (firstL tm l r)).map fun q => decide (q.1 < q.2)).any id = (r.zip (firstL tm l r)).any fun q => decide (q.1 < q.2) := by rw [List.any_map]; rfl
        rw [em]
        cases g : (r.zip (firstL tm l r)).any fun q => decide (q.1 < q.2) with
        | true =>
          refine iteT ?_
          have := k H' (s13.trans sm)
          have e2 : earlyB tm ls rows = true := by
            unfold earlyB
            rw [List.any_eq_true]
            exact ⟨(l, r), List.mem_of_getElem? ez, g⟩
          rw [e2] at this
          exact this
        | false =>
          refine iteF ⟨_, _, rfl, s13.trans sm, ?_⟩
          rw [any_take _ ez, hb, Bool.false_or]
          exact g
    · rintro σ' H1 ⟨o3, o4, rfl, s1, hb⟩
      rw [show xs.length = (ls.zip rows).length by rw [List.length_zip]; omega, List.take_length] at hb
      have := k H1 s1
      unfold earlyB at this
      rw [hb] at this
      exact this
end
end Hc


set_option Elab.async false
set_option linter.all false
set_option maxRecDepth 100000
set_option maxHeartbeats 1000000
set_option autoImplicit false
namespace Hc
open PySem L2
theorem flat_len {α β : Type} {f : α → List β} {c : Nat} : ∀ (l : List α), (∀ x ∈ l, (f x).length ≤ c) → (l.flatMap f).length ≤ c * l.length
  | [], _ => Nat.zero_le _
  | x :: l, h => by
    rw [List.flatMap_cons, List.length_append, List.length_cons, Nat.mul_succ]
    have h1 := h x List.mem_cons_self
    have h2 := flat_len l fun y hy => h y (List.mem_cons_of_mem _ hy)
    omega
theorem es_flat : ∀ (ls : List Lt) (rows : List (List Int)), es ls rows = (ls.zip rows).flatMap fun p => p.1.1.zip p.2
  | [], _ => rfl
  | _ :: _, [] => rfl
  | l :: ls, r :: rows => by
    rw [es_cons, es_flat ls rows, List.zip_cons_cons, List.flatMap_cons]
/-- a place as a key -/
def keyOf (e : Nat × Int) : List L2.Key := [.inl (e.1 : Int), .inl e.2]
theorem keyOf_inj {a b : Nat × Int} (h : keyOf a = keyOf b) : a = b := by
  obtain ⟨a1, a2⟩ := a
  obtain ⟨b1, b2⟩ := b
  unfold keyOf at h
  obtain ⟨h1, h2⟩ := List.cons.inj h
  obtain ⟨h2, _⟩ := List.cons.inj h2
  have h1 : (a1 : Int) = (b1 : Int) := Sum.inl.inj h1
  have h2 : a2 = b2 := Sum.inl.inj h2
  have : a1 = b1 := by omega
  rw [this, h2]
/-- the dict counts what has come -/
structure Cnt (kvs : List (List L2.Key × V)) (pf : List (Nat × Int)) : Prop where
  get : ∀ e, valV kvs (keyOf e) = if pf.count e = 0 then none else some (.int (pf.count e : Nat))
  all : ∀ p ∈ kvs, ∃ e, p.1 = keyOf e ∧ p.2 = .int (pf.count e : Nat) ∧ e ∈ pf
  len : kvs.length ≤ pf.length
theorem Cnt.nil : Cnt [] [] := ⟨fun e => by rw [List.count_nil, if_pos rfl]; rfl, (fun p hp => (nomatch hp)), Nat.le_refl _⟩
theorem Cnt.getD {kvs : List (List L2.Key × V)} {pf : List (Nat × Int)} (c : Cnt kvs pf) (e : Nat × Int) : (valV kvs (keyOf e)).getD (.int 0) = .int (pf.count e : Nat) := by
  rw [c.get]
  by_cases h : pf.count e = 0
  · rw [if_pos h, h]; rfl
  · rw [if_neg h]; rfl
theorem count_one (pf : List (Nat × Int)) (e x : Nat × Int) : (pf ++ [e]).count x = pf.count x + if e = x then 1 else 0 := by
  rw [List.count_append, List.count_singleton]
  by_cases q : e = x
  · rw [if_pos q, if_pos (by simpa using q)]
  · rw [if_neg q, if_neg (by simpa using q)]
theorem Cnt.put {kvs : List (List L2.Key × V)} {pf : List (Nat × Int)} (c : Cnt kvs pf) (e : Nat × Int) : Cnt (putK kvs (keyOf e) (.int ((pf.count e : Nat) + 1 : Int))) (pf ++ [e]) := by
  refine ⟨fun x => ?_, fun p hp => ?_, ?_⟩
  · rw [valV_put, count_one]
    by_cases q : e = x
    · subst q
      rw [if_pos rfl, if_pos rfl, if_neg (by omega)]
      congr 2
    · rw [if_neg (fun z => q (keyOf_inj z).symm), if_neg q, Nat.add_zero]
      exact c.get x
  · unfold putK at hp
    by_cases g : (kvs.any fun kv => decide (kv.1 = keyOf e)) = true
    · rw [if_pos g] at hp
      obtain ⟨p0, h0, h1⟩ := List.mem_map.mp hp
      by_cases z : p0.1 = keyOf e
      · rw [if_pos z] at h1
        subst h1
        refine ⟨e, z, ?_, List.mem_append_right _ (List.mem_singleton_self _)⟩
        rw [count_one, if_pos rfl]; rfl
      · rw [if_neg z] at h1
        subst h1
        obtain ⟨x, hx1, hx2, hx3⟩ := c.all p0 h0
        refine ⟨x, hx1, ?_, List.mem_append_left _ hx3⟩
        rw [count_one, if_neg (fun q => z (by rw [hx1, q])), Nat.add_zero]
        exact hx2
    · rw [if_neg g] at hp
      rcases List.mem_append.mp hp with hp | hp
      · obtain ⟨x, hx1, hx2, hx3⟩ := c.all p hp
        refine ⟨x, hx1, ?_, List.mem_append_left _ hx3⟩
        have : ¬ e = x := fun q => g (by
          rw [List.any_eq_true]
          exact ⟨p, hp, decide_eq_true (by rw [hx1, q])⟩)
        rw [count_one, if_neg this, Nat.add_zero]
        exact hx2
      · rw [List.mem_singleton] at hp
        subst hp
        refine ⟨e, rfl, ?_, List.mem_append_right _ (List.mem_singleton_self _)⟩
        rw [count_one, if_pos rfl]; rfl
  · rw [List.length_append, List.length_singleton]
    have := c.len
    unfold putK
    split
    · rw [List.length_map]; omega
    · rw [List.length_append, List.length_singleton]; omega
/-- whether a road is too full -/
def fullB (rm : List Int) (ls : List Lt) (rows : List (List Int)) : Bool := (es ls rows).any fun e => decide (rm.getD e.1 0 < ((es ls rows).count e : Int))
def ovr (rm : List Int) (p : List L2.Key × V) : Bool := match p with
  | (.inl i :: _, .int c) => decide (rm.getD i.toNat 0 < c)
  | _ => false
theorem ovr_key (rm : List Int) (e : Nat × Int) (c : Int) : ovr rm (keyOf e, .int c) = decide (rm.getD e.1 0 < c) := by
  show decide (rm.getD ((e.1 : Int)).toNat 0 < c) = _
  rw [Int.toNat_natCast]
theorem valV_mem {kvs : List (List L2.Key × V)} {k : List L2.Key} {v : V} (h : valV kvs k = some v) : (k, v) ∈ kvs := by
  unfold valV at h
  obtain ⟨p, h1, h2⟩ := Option.map_eq_some_iff.mp h
  have h3 := List.find?_some h1
  have h4 := List.mem_of_find?_eq_some h1
  have h3 : p.1 = k := of_decide_eq_true h3
  obtain ⟨a, b⟩ := p
  cases h3
  cases h2
  exact h4
theorem full_eq {rm : List Int} (hr : ∀ x ∈ rm, 0 ≤ x) {ls : List Lt} {rows : List (List Int)} {kvs : List (List L2.Key × V)} (c : Cnt kvs (es ls rows)) : kvs.any (ovr rm) = fullB rm ls rows := by
  have h0 : ∀ i, 0 ≤ rm.getD i 0 := fun i => by
    rw [List.getD_eq_getElem?_getD]
    cases e : rm[i]? with
    | none => exact Int.le_refl 0
    | some x => exact hr x (List.mem_of_getElem? e)
  rw [Bool.eq_iff_iff, List.any_eq_true]
  unfold fullB
  rw [List.any_eq_true]
  constructor
  · rintro ⟨p, hp, h⟩
    obtain ⟨e, e1, e2, _⟩ := c.all p hp
    obtain ⟨a, b⟩ := p
    cases e1
    cases e2
    have h : decide (rm.getD e.1 0 < ((es ls rows).count e : Int)) = true := (ovr_key rm e _).symm.trans h
    have h1 := of_decide_eq_true h
    have := h0 e.1
    refine ⟨e, ?_, h⟩
    exact List.count_pos_iff.mp (by omega)
  · rintro ⟨e, he, h⟩
    have hc : ¬ (es ls rows).count e = 0 := by
      have := List.count_pos_iff.mpr he
      omega
    have := c.get e
    rw [if_neg hc] at this
    refine ⟨_, valV_mem this, ?_⟩
    rw [ovr_key]
    exact h
theorem es_way {x : Nat × Int} : ∀ {ls : List Lt} {rows : List (List Int)}, x ∈ es ls rows → ∃ l ∈ ls, x.1 ∈ l.1
  | [], _, h => by cases h
  | _ :: _, [], h => by cases h
  | l :: ls, r :: rows, h => by
    rw [es_cons] at h
    rcases List.mem_append.mp h with h | h
    · exact ⟨l, List.mem_cons_self, (List.of_mem_zip (a := x.1) (b := x.2) h).1⟩
    · obtain ⟨l', h1, h2⟩ := es_way h
      exact ⟨l', List.mem_cons_of_mem _ h1, h2⟩
/-- [f(k, v) for k, v in d.items()], tuple keys -/
theorem lc_itemsT {d : Addr} {od : Obj} {kvs : List (List L2.Key × V)} {g : TG} {tt : TT} {te : TE} {vs : List Nat} {σ : St} {H1 : Hp} {D : Addr} {Qd : Hp → Prop} (Pv : Nat → Hp → Prop) (h0 : Pv 0 (upd H1 D (.lst [])))
    (hl : ∀ i H, Pv i H → H d = some (.frz od (.dT kvs)))
    (hs : ∀ (i : Nat) (k : List L2.Key) (v : V) (T q : Addr) (H : Hp), kvs[i]? = some (k, v) → H q = some (.tup (k.map kV)) → Pv i H → H T = none → g (.ref T) (wipe σ vs) (upd H T (.tup [.ref q, v])) fun σ2 H2 => wipe σ2 vs = wipe σ vs ∧ tt σ2 H2 fun b H3 =>
      if b = true then te σ2 H3 fun y H4 => ∃ acc, H4 D = some (.lst acc) ∧ acc.length < sizeLine ∧ Pv (i + 1) (upd H4 D (.lst (acc ++ [y]))) else Pv (i + 1) H3) (hd : ∀ H, Pv kvs.length H → Qd H) :
    ∃ W : Nat → Nat → Hp → Prop, (∃ m, W 0 m (upd H1 D (.lst []))) ∧ ∀ i m H, W i m H →
      ((Itit d od kvs).stop i H ∧ Qd H) ∨ ((Itit d od kvs).go i H ∧ ∃ Nx : Hp → Prop, (∀ H', Nx H' → ∃ m', m' < m ∧ W (i + 1) m' H') ∧ ∀ x H', (Itit d od kvs).yld i H x H' → g x (wipe σ vs) H' fun σ2 H2 => wipe σ2 vs = wipe σ vs ∧ tt σ2 H2 fun b H3 =>
        if b = true then te σ2 H3 fun y H4 => ∃ acc, H4 D = some (.lst acc) ∧ acc.length < sizeLine ∧ Nx (upd H4 D (.lst (acc ++ [y]))) else Nx H3) := by
  refine ⟨fun i m H => m = kvs.length - i ∧ i ≤ kvs.length ∧ Pv i H, ⟨_, rfl, Nat.zero_le _, h0⟩, ?_⟩
  rintro i m H ⟨rfl, hi, p⟩
  have q := hl i H p
  by_cases hlt : i < kvs.length
  · refine .inr ⟨⟨q, hlt⟩, Pv (i + 1), fun H' p' => ⟨kvs.length - (i + 1), by omega, rfl, hlt, p'⟩, fun v H' y => ?_⟩
    obtain ⟨T, k, v', qq, e1, rfl, hT, e2, rfl⟩ := y
    exact hs i k v' T qq H e1 e2 p hT
  · have e : i = kvs.length := by omega
    subst e
    exact .inl ⟨⟨q, Nat.le_refl _⟩, hd H p⟩
section
variable {P : Program} {w : World} {K : PySem.W.Frag} {mg : Str → Option Value} {base : Heap}
def spFull (C : Addr) : Sp := fun vs H Q _ => ∃ (h p b : Addr) (vl : V) (n : Int) (rds : List D) (rm tm : List Int) (ls : List Lt) (rows : List (List Int)), vs = [.ref p, vl, .ref b] ∧ WebR C H h p n rds rm tm ∧ Rp H h vl (ltsD ls) ∧ Rp H h (.ref b) (rowsD rows) ∧ LsOk rds ls ∧ ls.length ≤ 60 ∧ rows.length = ls.length ∧
  (∀ (k : Nat) (l : Lt) (r : List Int), ls[k]? = some l → rows[k]? = some r → r.length = l.1.length) ∧ ∀ H', Same H H' → Q (.bl (fullB rm ls rows)) H'
theorem ok_some_full (T : Tx K mg) : FnOk P w K mg base CX0 2 T.some_full.f T.some_full.fd ["web", "letters", "hours"] (spFull T.Web.C) := by
  refine T.some_full.F.ok sc_some_full (fun vs H Q E h => ?_) (fun cdv A outer s H vs Q E hr h => ?_)
  · obtain ⟨_, _, _, _, _, _, _, _, _, _, rfl, _⟩ := h
    rfl
  · obtain ⟨h, p, b, vl, n, rds, rm, tm, ls, rows, rfl, W, rl, rr, o, l60, ll, lk, k⟩ := h
    obtain ⟨q, xs, rfl, eq, lx, at_⟩ := lts_at rl
    obtain ⟨_, ys, eb, er, ly, rat⟩ := rows_at rr
    cases eb
    obtain ⟨dx, v1, v2, v3, v4, hp, _, r3, _⟩ := W.ex
    obtain ⟨pt, ts, rfl, et, _, rt⟩ := tup_inv r3
    rw [rt.ints_inv] at et
    have sz : ∀ i, ((ls.zip rows).take i).length ≤ 60 := fun i => by rw [List.length_take, List.length_zip]; omega
    have bd : ∀ (k : Nat) (l : Lt) (r : List Int), ls[k]? = some l → rows[k]? = some r → (l.1.zip r).length ≤ 8 := fun k l r e1 e2 => by
      have := (o.h l (List.mem_of_getElem? e1)).2.1
      rw [List.length_zip]; omega
    refine ⟨_, (pss_cons (ps_set (i := 3) sc_some_full.nd rfl (Or.inl rfl) pe_dnewT)
      (pss_cons (ps_for PassesOwn.never rfl (RZ.pi_zipA (by rfl) T.n_zip (pa_cons (pv 1) (pa_cons (pv 2) pa_nil))) (pg_tup (by rfl) (pgs_cons (by exact (pg_tup (by rfl) (pgs_cons (pg_name (i := 4) sc_some_full.nd rfl (Or.inl rfl)) (pgs_cons (pg_name (i := 5) sc_some_full.nd rfl (Or.inl rfl)) pgs_nil)))) (pgs_cons (pg_name (i := 6) sc_some_full.nd rfl (Or.inl rfl)) pgs_nil)))
      (pss_one (ps_for PassesOwn.never rfl (RZ.pi_zipA (by rfl) T.n_zip (pa_cons (pv 4) (pa_cons (pv 6) pa_nil))) (pg_tup (by rfl) (pgs_cons (pg_name (i := 7) sc_some_full.nd rfl (Or.inl rfl)) (pgs_cons (pg_name (i := 8) sc_some_full.nd rfl (Or.inl rfl)) pgs_nil)))
      (pss_one (ps_asg (pe_op op_add (pe_dget2 (units1 hr) (pv 3) (pe_tup (pa_cons (pv 7) (pa_cons (pv 8) pa_nil))) pe_int ⟨rfl, rfl, rfl, rfl⟩) pe_int) (pg_sub (pv 3) (pe_tup (pa_cons (pv 7) (pa_cons (pv 8) pa_nil))) (set_dict (units1 hr))))))))
      (pss_one (ps_ret (pe_lock (pe_callB (cr_any rfl) (by rfl) T.n_any (by decide +kernel) (pa_cons (pe_lc (own := [("many", 9), ("road", 7), ("_", 5)]) (g := (gTup K 2 (gCons (gTup K 2 (gCons (gName 7) (gCons (gName 5) gNil))) (gCons (gName 9) gNil)))) (tt := tYes) (te := (tOp rGtS (tVar 9) (tOp (rIxT K) (tFld K (tVar 0) "rooms") (tVar 7)))) rfl sc_some_full.nd (pi_itemsT (pv 3)) (blkOk_by (own := [("many", 9), ("road", 7), ("_", 5)]) (N := ["web", "letters", "hours", "passed", "way", "_", "row", "road", "hour", "many"]) (sc := defScope s_some_full) (by decide +kernel)) (fun _ _ _ _ _ => (pg_tup (by rfl) (pgs_cons (by exact (pg_tup (by rfl) (pgs_cons (pg_name (i := 7) sc_some_full.nd rfl (Or.inl rfl)) (pgs_cons (pg_name (i := 5) sc_some_full.nd rfl (Or.inl rfl)) pgs_nil)))) (pgs_cons (pg_name (i := 9) sc_some_full.nd rfl (Or.inl rfl)) pgs_nil)))) (fun _ _ _ _ _ => pts_nil) (fun _ _ _ _ _ => (by exact (pe_cmpR op_gt (pv 9) (pe_ix ix_tup (pe_fld (pv 0) rfl) (pv 7) (fun _ _ => rfl)) (nomark _))))) pa_nil))))))), ?_⟩
    refine fun dd hdd => ?_
    refine ⟨_, rfl, _, rfl, q, b, xs, ys, rfl, .inr ⟨SqT.of (same_upd hdd _ _ eq), SqT.of (same_upd hdd _ _ er), RZ.for_zipT (xs := xs) (ys := ys) (by omega) (fun i σ' H' => ∃ (o4 o5 o6 o7 o8 : Option V) (kvs : List (List L2.Key × V)), σ' = [some (.ref p), some (.ref q), some (.ref b), some (.ref dd), o4, o5, o6, o7, o8, none] ∧ Same H (fun b => if b = dd then none else H' b) ∧ H' dd = some (.dT kvs) ∧ Cnt kvs (((ls.zip rows).take i).flatMap fun p => p.1.1.zip p.2))
      ⟨_, _, _, _, _, [], rfl, mask_upd hdd (Same.refl _), upd_same, Cnt.nil⟩ (fun i σ' H' ⟨_, _, _, _, _, _, _, s, _⟩ => ⟨SqT.of (mask hdd s _ _ eq), SqT.of (mask hdd s _ _ er)⟩) ?_ ?_⟩⟩
    · rintro i x y TT σ' H1 hx hy ⟨o4, o5, o6, o7, o8, kvs, rfl, s1, hd1, c1⟩ hT
      have hi : i < ls.length := by rw [← lx]; exact (List.getElem?_eq_some_iff.mp hx).1
      obtain ⟨l, el⟩ : ∃ l, ls[i]? = some l := ⟨_, List.getElem?_eq_getElem hi⟩
      obtain ⟨r, er'⟩ : ∃ r, rows[i]? = some r := ⟨_, List.getElem?_eq_getElem (by omega)⟩
      obtain ⟨x', ex', rx⟩ := at_ i l el
      rw [hx] at ex'
      cases ex'
      obtain ⟨b2, eb2, ey⟩ := rat i r er'
      rw [hy] at eb2
      cases eb2
      obtain ⟨ql, al, rfl, eql, eal⟩ := lt_inv rx
      have st : Same H1 (upd H1 TT (.tup [.ref ql, .ref b2])) := same_upd hT
      have hd2 := st _ _ hd1
      have s2 : Same H (fun b => if b = dd then none else upd H1 TT (.tup [.ref ql, .ref b2]) b) := fun b u z => by
        have nb := ne_of_none z hdd
        show (if b = dd then none else upd H1 TT _ b) = _
        rw [if_neg nb]
        exact st _ _ (mask hdd s1 _ _ z)
      have m2 := mask hdd s2
      have ez : (ls.zip rows)[i]? = some (l, r) := by rw [List.getElem?_zip_eq_some]; exact ⟨el, er'⟩
      have hlr := lk i l r el er'
      refine ⟨TT, _, rfl, SqT.of upd_same, rfl, _, _, rfl, ⟨ql, _, rfl, SqT.of (m2 _ _ eql), rfl, _, _, rfl, _, _, rfl, rfl, _, _, rfl, rfl, ?_⟩⟩
      generalize upd H1 TT (.tup [.ref ql, .ref b2]) = H2 at st hd2 s2 m2 ⊢
      clear hd1 s1
      obtain ⟨E0, eE⟩ : ∃ E0, E0 = ((ls.zip rows).take i).flatMap fun p => p.1.1.zip p.2 := ⟨_, rfl⟩
      rw [← eE] at c1
      have lE : E0.length ≤ 480 := by
        rw [eE]
        have := flat_len (f := fun p : Lt × List Int => p.1.1.zip p.2) (c := 8) ((ls.zip rows).take i) fun p hp => by
          obtain ⟨j, hj, e⟩ := List.mem_iff_getElem.mp (List.mem_of_mem_take hp)
          have e2 : (ls.zip rows)[j]? = some p := by rw [List.getElem?_eq_getElem hj, e]
          rw [List.getElem?_zip_eq_some] at e2
          exact bd j p.1 p.2 e2.1 e2.2
        have := sz i
        omega
      have l8 := bd i l r el er'
      refine ⟨_, rfl, _, rfl, al, b2, _, _, rfl, .inr ⟨SqT.of (m2 _ _ eal), SqT.of (m2 _ _ ey), RZ.for_zipT (xs := l.1.map fun j => V.int (j : Nat)) (ys := r.map V.int) (by rw [List.length_map, List.length_map]; exact hlr.symm) (fun j σ' H' => ∃ (o7 o8 : Option V) (kvs : List (List L2.Key × V)), σ' = [some (.ref p), some (.ref q), some (.ref b), some (.ref dd), some (.ref al), some (.int l.2), some (.ref b2), o7, o8, none] ∧ Same H (fun b => if b = dd then none else H' b) ∧ H' dd = some (.dT kvs) ∧ Cnt kvs (E0 ++ (l.1.zip r).take j))
        ⟨_, _, kvs, rfl, s2, hd2, by rw [List.take_zero, List.append_nil]; exact c1⟩ (fun i σ' H' ⟨_, _, _, _, s, _⟩ => ⟨SqT.of (mask hdd s _ _ eal), SqT.of (mask hdd s _ _ ey)⟩) ?_ ?_⟩⟩
      · clear c1 hd2 s2 m2 st kvs
        rintro j x y T2 σ' H3 hx hy ⟨o7, o8, kvs, rfl, s3, hd3, c3⟩ hT2
        have hj1 : j < l.1.length := by
          have := (List.getElem?_eq_some_iff.mp hx).1
          rwa [List.length_map] at this
        have hj2 : j < r.length := by omega
        have ex : x = .int (l.1[j] : Nat) := by
          rw [List.getElem?_map, List.getElem?_eq_getElem hj1] at hx
          exact (Option.some.inj hx).symm
        have ey2 : y = .int r[j] := by
          rw [List.getElem?_map, List.getElem?_eq_getElem hj2] at hy
          exact (Option.some.inj hy).symm
        subst ex ey2
        have ez2 : (l.1.zip r)[j]? = some (l.1[j], r[j]) := by rw [List.getElem?_zip_eq_some]; exact ⟨List.getElem?_eq_getElem hj1, List.getElem?_eq_getElem hj2⟩
        have m3 := mask hdd s3
        have s4 : Same H3 (upd H3 T2 (.tup [.int (l.1[j] : Nat), .int r[j]])) := same_upd hT2
        refine ⟨T2, _, rfl, SqT.of upd_same, rfl, _, _, rfl, _, _, rfl, rfl, ?_⟩
        generalize upd H3 T2 (.tup [.int (l.1[j] : Nat), .int r[j]]) = H4 at s4 ⊢
        have hd4 := s4 _ _ hd3
        refine ⟨_, rfl, dd, rfl, .inr ⟨kvs, .inl hd4⟩, _, rfl, _, rfl, by show 2 ≤ sizeLine; decide, fun t1 ht1 => ?_⟩
        have s5 : Same H4 (upd H4 t1 (.tup [.int (l.1[j] : Nat), .int r[j]])) := same_upd ht1
        have e5 : (upd H4 t1 (.tup [.int (l.1[j] : Nat), .int r[j]])) t1 = some (.tup ((keyOf (l.1[j], r[j])).map kV)) := upd_same
        generalize upd H4 t1 (.tup [.int (l.1[j] : Nat), .int r[j]]) = H5 at s5 e5 ⊢
        have hd5 := s5 _ _ hd4
        refine ⟨_, DGet.t hd5 e5, ?_⟩
        rw [c3.getD]
        refine ⟨_, _, rfl, rfl, _, rfl, _, rfl, _, rfl, by show 2 ≤ sizeLine; decide, fun t2 ht2 => ?_⟩
        have s6 : Same H5 (upd H5 t2 (.tup [.int (l.1[j] : Nat), .int r[j]])) := same_upd ht2
        have e6 : (upd H5 t2 (.tup [.int (l.1[j] : Nat), .int r[j]])) t2 = some (.tup ((keyOf (l.1[j], r[j])).map kV)) := upd_same
        generalize upd H5 t2 (.tup [.int (l.1[j] : Nat), .int r[j]]) = H6 at s6 e6 ⊢
        have hd6 := s6 _ _ hd5
        have lk3 := c3.len
        have lt3 : ((l.1.zip r).take j).length ≤ 8 := by rw [List.length_take]; omega
        rw [List.length_append] at lk3
        refine ⟨dd, _, rfl, DPut.t hd6 e6 (line_lt (by omega)), ?_⟩
        refine ⟨_, _, _, rfl, mask_upd hdd ((m3.trans s4).trans (s5.trans s6)) , upd_same, ?_⟩
        rw [take_more ez2, ← List.append_assoc]
        exact c3.put (l.1[j], r[j])
      · rintro σ' H3 ⟨o7, o8, kvs, rfl, s3, hd3, c3⟩
        rw [show (l.1.map fun j => V.int (j : Nat)).length = (l.1.zip r).length by rw [List.length_map, List.length_zip]; omega, List.take_length] at c3
        refine ⟨_, _, _, _, _, kvs, rfl, s3, hd3, ?_⟩
        rw [take_more ez, List.flatMap_append, List.flatMap_cons, List.flatMap_nil, List.append_nil, ← eE]
        exact c3
    · rintro σ' H1 ⟨o4, o5, o6, o7, o8, kvs, rfl, s1, hd1, c1⟩
      rw [show xs.length = (ls.zip rows).length by rw [List.length_zip]; omega, List.take_length, ← es_flat] at c1
      have m1 := mask hdd s1
      refine ⟨dd, .dT kvs, hd1, trivial, fun od => ?_⟩
      have s2 : Same H (upd H1 dd (.frz od (.dT kvs))) := mask hdd (mask_upd hdd m1)
      have e2 : (upd H1 dd (.frz od (.dT kvs))) dd = some (.frz od (.dT kvs)) := upd_same
      generalize upd H1 dd (.frz od (.dT kvs)) = H2 at s2 e2 ⊢
      have lkv : kvs.length ≤ 480 := by
        have h1 := c1.len
        rw [es_flat] at h1
        have := flat_len (f := fun p : Lt × List Int => p.1.1.zip p.2) (c := 8) (ls.zip rows) fun p hp => by
          obtain ⟨j, hj, e⟩ := List.mem_iff_getElem.mp hp
          have e2 : (ls.zip rows)[j]? = some p := by rw [List.getElem?_eq_getElem hj, e]
          rw [List.getElem?_zip_eq_some] at e2
          exact bd j p.1 p.2 e2.1 e2.2
        have hz := List.length_zip (l₁ := ls) (l₂ := rows)
        omega
      refine ⟨_, rfl, dd, od, kvs, rfl, e2, fun D hD => ?_⟩
      have nDd : dd ≠ D := fun z => by subst z; rw [e2] at hD; cases hD
      have hD0 : H D = none := by
        cases z : H D with
        | none => rfl
        | some u => rw [s2 _ _ z] at hD; cases hD
      refine lc_itemsT (d := dd) (od := od) (kvs := kvs) (fun i H' => Same H H' ∧ H' dd = some (.frz od (.dT kvs)) ∧ H' D = some (.lst (((kvs.take i).map (ovr rm)).map V.bl)))
        ⟨mask hD0 (mask_upd hD0 s2), by rw [upd_ne nDd]; exact e2, upd_same⟩ (fun i H' ⟨_, e, _⟩ => e) ?_ ?_
      · rintro i kk v T2 q2 H3 hkv hq2 ⟨s3, hd3, hD3⟩ hT2
        obtain ⟨e, e1, e4, e5⟩ := c1.all _ (List.mem_of_getElem? hkv)
        have hi : i < kvs.length := (List.getElem?_eq_some_iff.mp hkv).1
        have e1 : kk = keyOf e := e1
        have e4 : v = .int ((es ls rows).count e : Nat) := e4
        subst e1 e4
        obtain ⟨l, hl1, hl2⟩ := es_way e5
        have hrd : e.1 < rm.length := by rw [W.lr]; exact (o.h l hl1).2.2.1 _ hl2
        have s4 : Same H3 (upd H3 T2 (.tup [.ref q2, .int ((es ls rows).count e : Nat)])) := same_upd hT2
        refine ⟨T2, _, rfl, SqT.of upd_same, rfl, _, _, rfl, ⟨q2, _, rfl, SqT.of (s4 _ _ hq2), rfl, _, _, rfl, _, _, rfl, rfl, _, _, rfl, rfl, rfl, tyes ⟨_, rfl, _, rfl, p, T.Web.C, dx, _, _, rfl, s4 _ _ (s3 _ _ hp), T.Web.cl, T.Web.no _ (by simp), wF_m _ _ _ _, _, rfl, pt, _, _, _, rfl, rfl, SqT.of (s4 _ _ (s3 _ _ et)), atI_nat (int_at rm hrd), _, _, rfl, rfl, _, s4 _ _ hD3, ?_, ?_, ?_, ?_⟩⟩⟩
        · rw [List.length_map, List.length_map, List.length_take]; exact line_lt (by omega)
        · exact mask hD0 (mask_upd hD0 (s3.trans s4))
        · rw [upd_ne nDd]; exact s4 _ _ hd3
        · rw [upd_same, take_more hkv, List.map_append, List.map_append, List.map_cons, List.map_nil, ovr_key]; rfl
      · rintro H3 ⟨s3, hd3, hD3⟩
        rw [List.take_length] at hD3
        refine ⟨_, _, rfl, SqL.of hD3, hd3, ?_⟩
        have em : (kvs.map (ovr rm)).any id = kvs.any (ovr rm) := by rw [List.any_map]; rfl
        rw [em, full_eq (fun x hx => by have := (W.br x hx).1; omega) c1]
        exact k _ (mask hdd (mask_upd hdd s3))
end
end Hc


set_option Elab.async false
set_option linter.all false
set_option maxRecDepth 100000
set_option maxHeartbeats 1000000
set_option autoImplicit false
namespace Hc
open PySem L2
theorem way_inv {rds : List D} {d : D} (e : isWay rds d = true) : ∃ ns, d = nD ns ∧ 1 ≤ ns.length ∧ ns.length ≤ 8 ∧ (∀ j ∈ ns, j < rds.length) ∧ wayOk rds ns := by
  cases d with
  | tup ds =>
    rw [isWay_tup] at e
    rw [Bool.and_eq_true, Bool.and_eq_true, Bool.and_eq_true] at e
    obtain ⟨⟨⟨h1, h2⟩, h3⟩, h4⟩ := e
    have h1 := of_decide_eq_true h1
    have h2 := of_decide_eq_true h2
    have key : ∀ ds : List D, ds.all (isRoad rds) = true → ∃ ns : List Nat, ds = ns.map (fun j => D.int (j : Nat)) ∧ ∀ j ∈ ns, j < rds.length := by
      intro ds
      induction ds with
      | nil => exact fun _ => ⟨[], rfl, fun _ z => nomatch z⟩
      | cons d ds ih =>
        intro h
        rw [List.all_cons, Bool.and_eq_true] at h
        obtain ⟨j, rfl, hj⟩ := road_in h.1
        obtain ⟨ns, rfl, hn⟩ := ih h.2
        refine ⟨j :: ns, rfl, fun x hx => ?_⟩
        rcases List.mem_cons.mp hx with rfl | hx
        · exact hj
        · exact hn x hx
    obtain ⟨ns, rfl, hn⟩ := key ds h3
    rw [List.length_map] at h1 h2
    refine ⟨ns, rfl, h1, h2, hn, fun i hi => ?_⟩
    rw [nums_map] at h4
    unfold adj at h4
    rw [List.all_eq_true, List.length_map] at h4
    have := of_decide_eq_true (h4 i (List.mem_range.mpr (by omega)))
    have a1 : i < ns.length := by omega
    rw [getD_map ns a1, getD_map ns hi] at this
    rw [List.getD_eq_getElem?_getD, List.getElem?_eq_getElem a1, List.getD_eq_getElem?_getD, List.getElem?_eq_getElem hi]
    exact this
  | _ => exact Bool.noConfusion e
theorem letters_inv {rds : List D} {d : D} (e : areLetters rds d = true) : ∃ ls, d = ltsD ls ∧ LsOk rds ls ∧ ls.length ≤ 60 := by
  cases d with
  | tup ds =>
    rw [areLetters_tup, Bool.and_eq_true] at e
    obtain ⟨h1, h2⟩ := e
    have h1 := of_decide_eq_true h1
    have key : ∀ ds : List D, ds.all (isLetter rds) = true → ∃ ls : List Lt, ds = ls.map ltD ∧ LsOk rds ls := by
      intro ds
      induction ds with
      | nil => exact fun _ => ⟨[], rfl, ⟨fun _ z => nomatch z⟩⟩
      | cons d ds ih =>
        intro h
        rw [List.all_cons, Bool.and_eq_true] at h
        obtain ⟨ls, rfl, o⟩ := ih h.2
        have h0 := h.1
        have t2 : isTupN 2 d = true := by
          cases q : isTupN 2 d with
          | true => rfl
          | false => rw [not_two q] at h0; cases h0
        obtain ⟨a, b, rfl⟩ := two_of t2
        have h0 : (isWay rds a && isBtw 1 1000000 b) = true := h0
        rw [Bool.and_eq_true] at h0
        obtain ⟨ns, rfl, n1, n2, n3, n4⟩ := way_inv h0.1
        obtain ⟨c, rfl⟩ := btw_shape h0.2
        have hc : (decide (1 ≤ c) && decide (c ≤ 1000000)) = true := h0.2
        rw [Bool.and_eq_true] at hc
        refine ⟨(ns, c) :: ls, rfl, ⟨fun l hl => ?_⟩⟩
        rcases List.mem_cons.mp hl with rfl | hl
        · exact ⟨n1, n2, n3, n4, of_decide_eq_true hc.1, of_decide_eq_true hc.2⟩
        · exact o.h l hl
    obtain ⟨ls, rfl, o⟩ := key ds h2
    exact ⟨ls, rfl, o, by rw [List.length_map] at h1; exact h1⟩
  | _ => exact Bool.noConfusion e
theorem letters_ok {rds : List D} {ls : List Lt} (o : LsOk rds ls) (h : ls.length ≤ 60) : areLetters rds (ltsD ls) = true := by
  show areLetters rds (.tup (ls.map ltD)) = true
  rw [areLetters_tup, List.length_map, decide_eq_true h, Bool.true_and, List.all_eq_true]
  intro d hd
  obtain ⟨l, hl, rfl⟩ := List.mem_map.mp hd
  obtain ⟨a1, a2, a3, a4, a5, a6⟩ := o.h l hl
  show (isWay rds (nD l.1) && isBtw 1 1000000 (.int l.2)) = true
  rw [way_ok a1 a2 a3 a4, btw_of a5 a6]; rfl
theorem ints_inv2 {n : Nat} {d : D} (e : areInts (n : Nat) d = true) : ∃ r : List Int, d = rowD r ∧ r.length = n := by
  cases d with
  | tup ds =>
    rw [areInts_tup, Bool.and_eq_true] at e
    have h1 := of_decide_eq_true e.1
    have key : ∀ ds : List D, ds.all isInt = true → ∃ ns : List Int, ds = ns.map D.int := by
      intro ds
      induction ds with
      | nil => exact fun _ => ⟨[], rfl⟩
      | cons d ds ih =>
        intro h
        rw [List.all_cons, Bool.and_eq_true] at h
        obtain ⟨ns, rfl⟩ := ih h.2
        cases d with
        | int i => exact ⟨i :: ns, rfl⟩
        | _ => exact Bool.noConfusion h.1
    obtain ⟨r, rfl⟩ := key ds e.2
    refine ⟨r, rfl, ?_⟩
    rw [List.length_map] at h1
    omega
  | _ => exact Bool.noConfusion e
/-- rows of the right lengths -/
def LenOk (ls : List Lt) (rows : List (List Int)) : Prop := rows.length = ls.length ∧ ∀ (k : Nat) (l : Lt) (r : List Int), ls[k]? = some l → rows[k]? = some r → r.length = l.1.length
theorem hours_inv {ls : List Lt} {d : D} (e : areHours ls d = true) : ∃ rows, d = rowsD rows ∧ LenOk ls rows := by
  cases d with
  | tup ds =>
    rw [areHours_tup, Bool.and_eq_true] at e
    have h1 := of_decide_eq_true e.1
    have key : ∀ (ls : List Lt) (ds : List D), ds.length = ls.length → ((ls.zip ds).all fun p => areInts (p.1.1.length : Nat) p.2) = true → ∃ rows : List (List Int), ds = rows.map rowD ∧ LenOk ls rows := by
      intro ls
      induction ls with
      | nil =>
        intro ds h _
        have : ds = [] := List.eq_nil_of_length_eq_zero h
        subst this
        exact ⟨[], rfl, rfl, fun k l r e => by simp at e⟩
      | cons l ls ih =>
        intro ds h g
        cases ds with
        | nil => simp at h
        | cons d ds =>
          rw [List.zip_cons_cons, List.all_cons, Bool.and_eq_true] at g
          obtain ⟨rows, rfl, q1, q2⟩ := ih ds (by simpa using h) g.2
          obtain ⟨r, rfl, hr⟩ := ints_inv2 g.1
          refine ⟨r :: rows, rfl, by simpa using q1, fun k l' r' e1 e2 => ?_⟩
          cases k with
          | zero =>
            have e1 : l = l' := by simpa using e1
            have e2 : r = r' := by simpa using e2
            subst e1 e2
            exact hr
          | succ k => exact q2 k l' r' (by simpa using e1) (by simpa using e2)
    obtain ⟨rows, rfl, o⟩ := key ls ds h1 e.2
    exact ⟨rows, rfl, o⟩
  | _ => exact Bool.noConfusion e
theorem hours_ok {ls : List Lt} {rows : List (List Int)} (o : LenOk ls rows) : areHours ls (rowsD rows) = true := by
  show areHours ls (.tup (rows.map rowD)) = true
  rw [areHours_tup, List.length_map, decide_eq_true o.1, Bool.true_and, List.all_eq_true]
  rintro ⟨l, d⟩ hp
  obtain ⟨k, hk, e⟩ := List.mem_iff_getElem.mp hp
  have e2 : (ls.zip (rows.map rowD))[k]? = some (l, d) := by rw [List.getElem?_eq_getElem hk, e]
  rw [List.getElem?_zip_eq_some, List.getElem?_map] at e2
  obtain ⟨e3, e4⟩ := e2
  cases er : rows[k]? with
  | none => rw [er] at e4; cases e4
  | some r =>
    rw [er] at e4
    cases e4
    have := o.2 k l r e3 er
    show areInts (l.1.length : Nat) (.tup (r.map D.int)) = true
    rw [areInts_tup, List.length_map, this, decide_eq_true rfl, Bool.true_and, List.all_eq_true]
    intro x hx
    obtain ⟨i, _, rfl⟩ := List.mem_map.mp hx
    rfl
/-- no hour is early -/
theorem early_ok {tm : List Int} {ls : List Lt} {rows : List (List Int)} (o : LenOk ls rows) (h : ∀ (k : Nat) (l : Lt) (r : List Int), ls[k]? = some l → rows[k]? = some r → EarlyOk tm l r) : earlyB tm ls rows = false := by
  unfold earlyB
  rw [List.any_eq_false]
  rintro ⟨l, r⟩ hp
  obtain ⟨k, hk, e⟩ := List.mem_iff_getElem.mp hp
  have e2 : (ls.zip rows)[k]? = some (l, r) := by rw [List.getElem?_eq_getElem hk, e]
  rw [List.getElem?_zip_eq_some] at e2
  obtain ⟨e3, e4⟩ := e2
  have he := h k l r e3 e4
  have hl := o.2 k l r e3 e4
  rw [Bool.not_eq_true, List.any_eq_false]
  rintro ⟨x, f⟩ hq
  obtain ⟨j, hj, ej⟩ := List.mem_iff_getElem.mp hq
  have e5 : (r.zip (firstL tm l r))[j]? = some (x, f) := by rw [List.getElem?_eq_getElem hj, ej]
  rw [List.getElem?_zip_eq_some] at e5
  obtain ⟨e6, e7⟩ := e5
  have hjr : j < r.length := (List.getElem?_eq_some_iff.mp e6).1
  have hx : r.getD j 0 = x := by rw [List.getD_eq_getElem?_getD, e6]; rfl
  have := he j hjr
  rw [hx] at this
  have hf : f = nextAt tm l (r.take j) := by
    unfold nextAt
    cases j with
    | zero =>
      have e7 : some l.2 = some f := e7
      cases e7
      rw [if_pos (by simp)]
    | succ j =>
      have e7 : ((l.1.zip (r.take (r.length - 1))).map fun p => p.2 + tm.getD p.1 0)[j]? = some f := e7
      have h1 : j < l.1.length := by omega
      have h2 : j < (r.take (r.length - 1)).length := by rw [List.length_take]; omega
      have ez : (l.1.zip (r.take (r.length - 1)))[j]? = some (l.1[j], (r.take (r.length - 1))[j]) := by rw [List.getElem?_zip_eq_some]; exact ⟨List.getElem?_eq_getElem h1, List.getElem?_eq_getElem h2⟩
      rw [List.getElem?_map, ez] at e7
      have e7 : some ((r.take (r.length - 1))[j] + tm.getD l.1[j] 0) = some f := e7
      cases e7
      have hlen : (r.take (j + 1)).length = j + 1 := by rw [List.length_take]; omega
      rw [if_neg (by omega), hlen, Nat.add_sub_cancel]
      have g1 : (r.take (j + 1)).getD j 0 = r[j] := by
        rw [List.getD_eq_getElem?_getD, List.getElem?_take_of_lt (Nat.lt_succ_self j), List.getElem?_eq_getElem (by omega)]; rfl
      have g2 : l.1.getD j 0 = l.1[j] := by rw [List.getD_eq_getElem?_getD, List.getElem?_eq_getElem h1]; rfl
      rw [g1, g2, List.getElem_take]
  rw [← hf] at this
  exact fun z => by
    have := of_decide_eq_true z
    omega
theorem full_ok {rm : List Int} {ls : List Lt} {rows : List (List Int)} (hr : ∀ l ∈ ls, ∀ j ∈ l.1, j < rm.length) (h : NotFull rm ls rows) : fullB rm ls rows = false := by
  unfold fullB
  rw [List.any_eq_false]
  rintro ⟨road, t⟩ he
  obtain ⟨l, h1, h2⟩ := es_way he
  have := h road t (hr l h1 _ h2)
  exact fun z => by
    have g : rm.getD road 0 < ((es ls rows).count (road, t) : Int) := of_decide_eq_true z
    omega
/-- the part of a day that is not as told -/
inductive DueD (rds : List D) (rm tm : List Int) : D → D → Str → Prop
  | letters {d2 d3 : D} : areLetters rds d2 = false → DueD rds rm tm d2 d3 "letters"
  | hours {ls : List Lt} {d3 : D} : LsOk rds ls → ls.length ≤ 60 → areHours ls d3 = false → DueD rds rm tm (ltsD ls) d3 "hours"
  | early {ls : List Lt} {rows : List (List Int)} : LsOk rds ls → ls.length ≤ 60 → LenOk ls rows → earlyB tm ls rows = true → DueD rds rm tm (ltsD ls) (rowsD rows) "early"
  | full {ls : List Lt} {rows : List (List Int)} : LsOk rds ls → ls.length ≤ 60 → LenOk ls rows → earlyB tm ls rows = false → fullB rm ls rows = true → DueD rds rm tm (ltsD ls) (rowsD rows) "full"
/-- a right day's parts -/
structure DayOk (rds : List D) (rm tm : List Int) (ls : List Lt) (rows : List (List Int)) : Prop where
  o : LsOk rds ls
  l : ls.length ≤ 60
  n : LenOk ls rows
  e : earlyB tm ls rows = false
  f : fullB rm ls rows = false
theorem nat_map_inj : ∀ {a b : List Nat}, (a.map fun j => D.int (j : Nat)) = (b.map fun j => D.int (j : Nat)) → a = b
  | [], [], _ => rfl
  | [], _ :: _, e => by cases e
  | _ :: _, [], e => by cases e
  | x :: a, y :: b, e => by
    rw [List.map_cons, List.map_cons] at e
    obtain ⟨e1, e2⟩ := List.cons.inj e
    have e1 := D.int.inj e1
    rw [nat_map_inj e2, show x = y by omega]
theorem lts_inj : ∀ {a b : List Lt}, a.map ltD = b.map ltD → a = b
  | [], [], _ => rfl
  | [], _ :: _, e => by cases e
  | _ :: _, [], e => by cases e
  | x :: a, y :: b, e => by
    rw [List.map_cons, List.map_cons] at e
    obtain ⟨e1, e2⟩ := List.cons.inj e
    have e1 := D.tup.inj e1
    obtain ⟨e3, e4⟩ := List.cons.inj e1
    obtain ⟨e4, _⟩ := List.cons.inj e4
    have e4 := D.int.inj e4
    have e3 := nat_map_inj (D.tup.inj e3)
    rw [lts_inj e2, Prod.ext e3 e4]
theorem int_map_inj : ∀ {a b : List Int}, a.map D.int = b.map D.int → a = b
  | [], [], _ => rfl
  | [], _ :: _, e => by cases e
  | _ :: _, [], e => by cases e
  | x :: a, y :: b, e => by
    rw [List.map_cons, List.map_cons] at e
    obtain ⟨e1, e2⟩ := List.cons.inj e
    rw [int_map_inj e2, D.int.inj e1]
theorem rows_inj : ∀ {a b : List (List Int)}, a.map rowD = b.map rowD → a = b
  | [], [], _ => rfl
  | [], _ :: _, e => by cases e
  | _ :: _, [], e => by cases e
  | x :: a, y :: b, e => by
    rw [List.map_cons, List.map_cons] at e
    obtain ⟨e1, e2⟩ := List.cons.inj e
    rw [rows_inj e2, int_map_inj (D.tup.inj e1)]
theorem DayOk.not {rds : List D} {rm tm : List Int} {ls : List Lt} {rows : List (List Int)} (x : DayOk rds rm tm ls rows) {part : Str} : ¬ DueD rds rm tm (ltsD ls) (rowsD rows) part := by
  intro h
  generalize e1 : ltsD ls = d2 at h
  generalize e2 : rowsD rows = d3 at h
  cases h with
  | letters h => subst e1; rw [letters_ok x.o x.l] at h; cases h
  | hours _ _ h =>
    obtain rfl := lts_inj (D.tup.inj e1)
    subst e2
    rw [hours_ok x.n] at h; cases h
  | early _ _ _ h =>
    obtain rfl := lts_inj (D.tup.inj e1)
    obtain rfl := rows_inj (D.tup.inj e2)
    rw [x.e] at h; cases h
  | full _ _ _ _ h =>
    obtain rfl := lts_inj (D.tup.inj e1)
    obtain rfl := rows_inj (D.tup.inj e2)
    rw [x.f] at h; cases h
/-- a day's object at p -/
structure DayO (C CW : Addr) (H : Hp) (h p : Addr) (n : Int) (rds : List D) (rm tm : List Int) (ls : List Lt) (rows : List (List Int)) : Prop where
  ex : ∃ (dx : Addr) (fs : List (Str × V)) (pw : Addr) (v2 v3 : V), H p = some (.ins C dx fs) ∧ fs.length ≤ 100 ∧ fs.lookup ("web" : Str) = some (.ref pw) ∧ fs.lookup ("letters" : Str) = some v2 ∧ fs.lookup ("hours" : Str) = some v3 ∧ WebR CW H h pw n rds rm tm ∧ Rp H h v2 (ltsD ls) ∧ Rp H h v3 (rowsD rows)
theorem noL_ltsD (ls : List Lt) : noL (ltsD ls) = true := noL_lts ls
theorem noL_rowsD (rows : List (List Int)) : noL (rowsD rows) = true := noL_rows rows
theorem DayO.nl {C CW : Addr} {H H' : Hp} {h p : Addr} {n : Int} {rds : List D} {rm tm : List Int} {ls : List Lt} {rows : List (List Int)} (x : DayO C CW H h p n rds rm tm ls rows) (k : NL H H') : DayO C CW H' h p n rds rm tm ls rows := by
  obtain ⟨dx, fs, pw, v2, v3, a1, a2, a3, a4, a5, a6, a7, a8⟩ := x.ex
  exact ⟨dx, fs, pw, v2, v3, k _ _ a1 (fun _ z => by cases z), a2, a3, a4, a5, a6.nl k, a7.nl k (noL_ltsD ls), a8.nl k (noL_rowsD rows)⟩
def dayF (v1 v2 v3 : V) : List (Str × V) := putF "hours" v3 (putF "letters" v2 (putF "web" v1 []))
theorem ne_hl : ¬ (("letters" : Str) = "hours") := by decide +kernel
theorem ne_wh : ¬ (("web" : Str) = "hours") := by decide +kernel
theorem ne_wl : ¬ (("web" : Str) = "letters") := by decide +kernel
theorem ne_lh : ¬ (("hours" : Str) = "letters") := by decide +kernel
section
variable {P : Program} {w : World} {K : PySem.W.Frag} {mg : Str → Option Value} {base : Heap}
theorem ok_BadDay___init (T : Tx K mg) : FnOk P w K mg base (L2.CX P w) 1 T.x_BadDay.f T.x_BadDay.fd ["self", "part"] (spInitE T.x_BadDay.C "part") := by
  refine T.x_BadDay.F.okX sc_BadDay___init (fun vs H Q E h => ?_) (fun cdv A outer s H vs Q E hr h => ?_)
  · obtain ⟨a, y, rfl, _⟩ := h
    rfl
  · obtain ⟨a, y, rfl, ha, k⟩ := h
    refine ⟨_, pss_one (ps_ost (pv 0) (pv 1)), ?_⟩
    exact ⟨_, rfl, _, rfl, a, T.x_BadDay.C, rfl, T.x_BadDay.T, T.x_BadDay.no _ (by simp), .inl ⟨ha, fun dx n ne => k dx n ne⟩⟩
def spDay (C CW CB : Addr) : Sp := fun vs H Q E => ∃ (h p dx pw : Addr) (v2 v3 : V) (d2 d3 : D) (n : Int) (rds : List D) (rm tm : List Int), vs = [.ref p, .ref pw, v2, v3] ∧ H p = some (.ins C dx []) ∧ WebR CW H h pw n rds rm tm ∧ Rp H h v2 d2 ∧ Rp H h v3 d3 ∧
  (∀ ls rows, d2 = ltsD ls → d3 = rowsD rows → DayOk rds rm tm ls rows → ∀ H', But p H H' → H' p = some (.ins C dx (dayF (.ref pw) v2 v3)) → Q .non H') ∧
  (∀ part, DueD rds rm tm d2 d3 part → ∀ H' d, Same H H' → H' d = some (.xd [("part", .str part)]) → E (.ref CB) (some d) H')
theorem ok_Day___init (T : Tx K mg) : FnOk P w K mg base (L2.CX P w) 8 T.Day.f T.Day.fd ["self", "web", "letters", "hours"] (spDay T.Day.C T.Web.C T.x_BadDay.C) := by
  refine T.Day.F.okX sc_Day___init (fun vs H Q E h => ?_) (fun cdv A outer s H vs Q E hr h => ?_)
  · obtain ⟨_, _, _, _, _, _, _, _, _, _, _, _, rfl, _⟩ := h
    rfl
  · obtain ⟨h, p, dx, pw, v2, v3, d2, d3, n, rds, rm, tm, rfl, hp, W, r2, r3, kq, ke⟩ := h
    refine ⟨_, (pss_cons (ps_if (pt_not (pt_val (pe_call (ok_are_letters T) (hr.mono (by decide)) rfl T.are_letters.g T.are_letters.F.kp T.are_letters.b .nil pass0 (pa_cons (pv 1) (pa_cons (pv 2) pa_nil)))))
      (pss_one (ps_raise rfl (takes_of rfl rfl rfl rfl) (pmk_oex T.x_BadDay.T T.x_BadDay.iC T.x_BadDay.tI (ok_BadDay___init T) (hr.mono (by decide)) T.x_BadDay.b .nil passL rfl T.x_BadDay.g (pa_cons pe_str pa_nil))))
      pss_nil)
      (pss_cons (ps_if (pt_not (pt_val (pe_call (ok_are_hours T) (hr.mono (by decide)) rfl T.are_hours.g T.are_hours.F.kp T.are_hours.b .nil pass0 (pa_cons (pv 2) (pa_cons (pv 3) pa_nil)))))
      (pss_one (ps_raise rfl (takes_of rfl rfl rfl rfl) (pmk_oex T.x_BadDay.T T.x_BadDay.iC T.x_BadDay.tI (ok_BadDay___init T) (hr.mono (by decide)) T.x_BadDay.b .nil passL rfl T.x_BadDay.g (pa_cons pe_str pa_nil))))
      pss_nil)
      (pss_cons (ps_if (pt_val (pe_call (ok_some_early T) (hr.mono (by decide)) rfl T.some_early.g T.some_early.F.kp T.some_early.b .nil pass0 (pa_cons (pv 1) (pa_cons (pv 2) (pa_cons (pv 3) pa_nil)))))
      (pss_one (ps_raise rfl (takes_of rfl rfl rfl rfl) (pmk_oex T.x_BadDay.T T.x_BadDay.iC T.x_BadDay.tI (ok_BadDay___init T) (hr.mono (by decide)) T.x_BadDay.b .nil passL rfl T.x_BadDay.g (pa_cons pe_str pa_nil))))
      pss_nil)
      (pss_cons (ps_if (pt_val (pe_call (ok_some_full T) (hr.mono (by decide)) rfl T.some_full.g T.some_full.F.kp T.some_full.b .nil pass0 (pa_cons (pv 1) (pa_cons (pv 2) (pa_cons (pv 3) pa_nil)))))
      (pss_one (ps_raise rfl (takes_of rfl rfl rfl rfl) (pmk_oex T.x_BadDay.T T.x_BadDay.iC T.x_BadDay.tI (ok_BadDay___init T) (hr.mono (by decide)) T.x_BadDay.b .nil passL rfl T.x_BadDay.g (pa_cons pe_str pa_nil))))
      pss_nil)
      (pss_cons (ps_fld (pv 0) (pv 1) rfl)
      (pss_cons (ps_fld (pv 0) (pv 2) rfl)
      (pss_one (ps_fld (pv 0) (pv 3) rfl)))))))), ?_⟩
    have raise : ∀ (part : Str) (H1 : Hp), Same H H1 → DueD rds rm tm d2 d3 part → ∀ a, H1 a = none →
        spInitE T.x_BadDay.C "part" [.ref a, .str part] (upd H1 a (exo a T.x_BadDay.C none)) (fun v H2 => v = .non ∧ ∃ (d : Addr) (fs : List (Str × V)), H2 a = some (exo a T.x_BadDay.C (some d)) ∧ H2 d = some (exd d fs) ∧ H1 d = none ∧
          E (.ref T.x_BadDay.C) (some d) (upd (del H2 a) d (.xd fs))) (fun _ _ _ => False) := by
      intro part H1 s1 hdue a hA
      refine ⟨a, _, rfl, upd_same, fun d hd nd => ⟨rfl, d, [("part", .str part)], upd_same, ?_, ?_, ?_⟩⟩
      · rw [upd_ne nd, upd_same]
      · rw [upd_ne nd] at hd; exact hd
      · exact ke part hdue _ d (err_same s1 hA hd nd) upd_same
    refine ⟨_, rfl, _, rfl, h, pw, n, rds, v2, d2, rfl, W.o, r2, fun H1 s1 => ⟨_, rfl, ?_⟩⟩
    cases e1 : areLetters rds d2 with
    | false => exact iteT ⟨by show 1 ≤ 1000; decide, fun a hA => raise _ H1 s1 (.letters e1) a hA⟩
    | true =>
    refine iteF ?_
    obtain ⟨ls, rfl, o, l60⟩ := letters_inv e1
    refine ⟨_, rfl, _, rfl, h, v2, v3, ls, d3, rfl, r2.same s1, r3.same s1, by omega, fun H2 s2 => ⟨_, rfl, ?_⟩⟩
    have s12 := s1.trans s2
    cases e2 : areHours ls d3 with
    | false => exact iteT ⟨by show 1 ≤ 1000; decide, fun a hA => raise _ H2 s12 (.hours o l60 e2) a hA⟩
    | true =>
    refine iteF ?_
    obtain ⟨rows, rfl, ln⟩ := hours_inv e2
    obtain ⟨q3, _, rfl, _, _, _⟩ := rows_at r3
    have r1000 : ∀ r ∈ rows, r.length ≤ 1000 := fun r hr => by
      obtain ⟨k, hk, e⟩ := List.mem_iff_getElem.mp hr
      have hk2 : k < ls.length := by rw [← ln.1]; exact hk
      have := ln.2 k ls[k] r (List.getElem?_eq_getElem hk2) (by rw [List.getElem?_eq_getElem hk, e])
      have := (o.h ls[k] (List.getElem_mem hk2)).2.1
      omega
    refine ⟨_, rfl, _, rfl, _, rfl, h, pw, q3, v2, n, rds, rm, tm, ls, rows, rfl, W.same s12, r2.same s12, r3.same s12, o, ln.1, r1000, fun H3 s3 => ⟨_, rfl, ?_⟩⟩
    have s13 := s12.trans s3
    cases e3 : earlyB tm ls rows with
    | true => exact iteT ⟨by show 1 ≤ 1000; decide, fun a hA => raise _ H3 s13 (.early o l60 ln e3) a hA⟩
    | false =>
    refine iteF ?_
    refine ⟨_, rfl, _, rfl, _, rfl, h, pw, q3, v2, n, rds, rm, tm, ls, rows, rfl, W.same s13, r2.same s13, r3.same s13, o, l60, ln.1, ln.2, fun H4 s4 => ⟨_, rfl, ?_⟩⟩
    have sm := s13.trans s4
    cases e4 : fullB rm ls rows with
    | true => exact iteT ⟨by show 1 ≤ 1000; decide, fun a hA => raise _ H4 sm (.full o l60 ln e3 e4) a hA⟩
    | false =>
    refine iteF ?_
    have no : ∀ f ∈ (["web", "letters", "hours"] : List Str), NoAttr K T.Day.C f := T.Day.no
    refine ⟨_, rfl, _, rfl, p, T.Day.C, dx, _, rfl, sm _ _ hp, T.Day.cl, no _ (by simp), (by decide), ?_⟩
    refine ⟨_, rfl, _, rfl, p, T.Day.C, dx, _, rfl, upd_same, T.Day.cl, no _ (by simp), (putF_lt (n := 999) (by decide)), ?_⟩
    refine ⟨_, rfl, _, rfl, p, T.Day.C, dx, _, rfl, upd_same, T.Day.cl, no _ (by simp), (putF_lt (n := 999) (putF_lt (n := 998) (by decide))), ?_⟩
    refine kq ls rows rfl rfl ⟨o, l60, ln, e3, e4⟩ _ (fun b o q n => ?_) upd_same
    rw [upd_ne n, upd_ne n, upd_ne n]
    exact sm _ _ q
end
end Hc


set_option Elab.async false
set_option linter.all false
set_option maxRecDepth 100000
set_option maxHeartbeats 1000000
set_option autoImplicit false
namespace PySem.W
open PySem PySem.Spec PyProof.Rows
section
variable {prog : Program} {w : World} {A : Around} {E : Value → Shared → Prop} {s : Shared} {K : Frag} {x C L f : Addr} {h₀ : Heap} {m : Str → Option Value} {ox : Obj} {od : Option Obj} {name : Str} {b tb : Value}
theorem ifBound_KB {M : Model} {args : List Value} {id : String} {Q : Option Value → Shared → Prop} (X : K.In s.heap) (I : InstAt s.heap x ox C od) (hs : findIn K (.ref C) name = some (some (.builtin id))) (hb : ∀ self, bindSpecial (.builtin id) self = pure (.builtin id, [self]))
    (h : wpAny M A (call (.builtin id) (.ref x :: args)) (fun v => Q (some v)) E s) : wpAny M A (callSpecialIfBound? (.ref x) name args) Q E s := by
  simp only [callSpecialIfBound?, bindSpecialIfBound?]
  refine wpAny_holding (wpAny_bind (wpAny_bind (wpAny_bind (I.type.here ((looks_findIn X hs).here ?_)))))
  simp only [hb]
  refine wpAny_bind (wpAny_askSetting (wpAny_ite ?_))
  have fin : wpAny M A (call (.builtin id) ([.ref x] ++ args) >>= fun v => pure (some v)) Q E s := wpAny_bind (wpAny_mono h (fun v s' h' => wpAny_pure h') fun _ _ h' => h')
  split
  · exact wpAny_bind (wpAny_pure (wpAny_pure fin))
  · exact wpAny_tryCatch (wpAny_bind (wpAny_pure (wpAny_pure fin)))
theorem objNe_entry_K (X : K.In s.heap) (I : InstAt s.heap x ox C od) (hs : findIn K (.ref C) "__eq__" = some (some (.ref f))) (hf : isFn K (.ref f) = true) (hu : A.units < cLine) {Q : Fin → Shared → Prop}
    (hcall : wpAny (model prog w) A (call (.ref f) [.ref x, b]) (fun v s' => ∃ c, v = .bool c ∧ Q (.done (.ret (.bool (!c)))) s') E s) :
    wpAny (model prog w) A (Builtin.«object.__ne__» ⟨[.ref x, b], []⟩) Q E s := by
  unfold Builtin.«object.__ne__»
  repeat (first
    | with_reducible refine wpAny_cRoomFor hu ?_
    | (refine wpAny_bind (m := callSpecialIfBound? (.ref x) (Str.ofString "__eq__") [b])
        (ifBound_K X I hs hf (wpAny_mono hcall (fun r s' hr => by
          obtain ⟨c, rfl, hq⟩ := hr
          repeat (first | exact hq | exact wpAny_pure hq | exact wpAny_truthy_bool hq | (refine wpAny_bind (m := truthy (.bool _)) (wpAny_truthy_bool ?_)) | wp_step)) fun _ _ e => e)))
    | wp_step)
theorem check_slot_K {M : Model} {id owner n : String} {rest : List Value} {Q : Unit → Shared → Prop} (X : K.In s.heap) (I : InstAt s.heap x ox C od) (hk : builtinKind id = some .slot) (hs : splitId id = some (owner, n))
    (ha : argsOk id ⟨.ref x :: rest, []⟩) (hsub : subIn K (.ref C) (.type owner) = some true) (hq : Q () s) :
    wpAny M A (checkBuiltinCall id ⟨.ref x :: rest, []⟩) Q E s := by
  simp only [checkBuiltinCall, hk, hs]
  refine wpAny_bind ?_
  · unfold isInstance
    refine wpAny_bind (I.type.here ?_)
    refine (looks_subIn X hsub).here ?_
    cases hsig : Manifest.signature? id with
    | none => repeat (first | exact wpAny_pure hq | exact hq | wp_step)
    | some sig =>
      simp only [argsOk, hsig] at ha
      have h2 : Bind.checkArgs id sig ⟨.ref x :: rest, []⟩ = pure () := ha
      repeat (first | (rw [h2]; exact wpAny_pure hq) | exact wpAny_pure hq | exact hq | wp_step)
theorem ne_K {Q : Value → Shared → Prop} (hu : A.units + 1 < cLine) (F : Fr h₀ L s.heap m) (X₀ : K.In h₀) (I : InstAt s.heap x ox C od) (hb : Looks (model prog w) s.heap (typeOf b) tb) (hn : notFirst K C tb = true)
    (hs : findIn K (.ref C) "__eq__" = some (some (.ref f))) (hf : isFn K (.ref f) = true) (hne : findIn K (.ref C) "__ne__" = some (some (.builtin "object.__ne__"))) (hsub : subIn K (.ref C) (.type "object") = some true)
    (h : wpAny (model prog w) A.in1 (call (.ref f) [.ref x, b]) (fun v s' => ∃ c, v = .bool c ∧ Q (.bool (!c)) s') E s) : wpAny (model prog w) A (richCompare .NotEq (.ref x) b) Q E s := by
  have X := X₀.keeps F.keep
  have one : wpAny (model prog w) A (tryCompare (.ref x) "__ne__" b) (fun r s' => ∃ v, r = some v ∧ Q v s') E s := by
    simp only [tryCompare]
    refine wpAny_bind (ifBound_KB X I hne PySem.F.cmp_object.ne.bind (wpAny_call (codeAny_call_builtin PySem.F.cmp_object.ne.plain PySem.F.cmpEntry_ne
      (check_slot_K X I PySem.F.cmpKind_ne PySem.F.cmpSplit_ne (PySem.F.cmpArgs_ne _ _) hsub (objNe_entry_K (A := A.in1) X I hs hf hu (wpAny_mono h (fun v s' hv => ?_) fun _ _ e => e))))))
    obtain ⟨c, rfl, hq⟩ := hv
    first | exact ⟨c, rfl, wpAny_pure ⟨_, rfl, hq⟩⟩ | exact ⟨c, rfl, wpAny_pure (wpAny_pure ⟨_, rfl, hq⟩)⟩
  unfold richCompare
  simp only [oneThing_ref]
  refine wpAny_holding (wpAny_bind (wpAny_cRoomFor (Nat.lt_of_succ_lt hu) ?_))
  refine wpAny_bind (I.type.here (wpAny_bind (hb.here ?_)))
  split
  · rename_i q
    have e : subIn K tb (.ref C) = some false := by
      rcases Bool.or_eq_true_iff.mp hn with e | e
      · rw [beq_iff_eq.mp e] at q; simp at q
      · exact beq_iff_eq.mp e
    refine wpAny_bind ((looks_subIn X e).here ?_)
    simp only [Bool.false_eq_true, if_false]
    refine wpAny_bind (wpAny_mono one (fun r s' z => ?_) fun _ _ e => e)
    obtain ⟨v, rfl, hq⟩ := z
    exact wpAny_pure hq
  · refine wpAny_bind (wpAny_pure ?_)
    simp only [Bool.false_eq_true, if_false]
    refine wpAny_bind (wpAny_mono one (fun r s' z => ?_) fun _ _ e => e)
    obtain ⟨v, rfl, hq⟩ := z
    exact wpAny_pure hq
end
end PySem.W
namespace L2
open PySem PySem.Spec PyProof.Rows
/-- a call of an own def from within a built-in one -/
theorem run_fnR1 {X : Cx} {pins : List (Addr × Obj)} {σ : St} {H : Hp} {s : Shared} {CX : CXT} {k : Nat} {f : Addr} {sp : Sp} {E : XK} {Q : VK} {us : List Value} {vs : List V} (F : FnR X.prog X.w X.K X.mg X.base CX k f sp) (hr : Room (k + 1) X.A) (hx : Passes CX X E) (I : Inv X pins σ H s) (r : Vals vs us) (h : sp vs H Q E) :
    codeAny (model X.prog X.w) X.A.in1 (.call (.ref f) ⟨us, []⟩) (fun r s' => match r with | .ok (.ret v) => EP X pins σ Q v s' | .ok _ => False | .error e => X.xe e s') s := by
  refine codeAny_mono (F X.A.in1 X.stack s H us vs Q E hr.in1 I.env0.in1 r h) fun r s' hq => ?_
  cases r with
  | error e => exact hx pins σ H s e s' I hq
  | ok fl =>
    cases fl with
    | ret u => exact I.after hq
    | next => exact False.elim hq
    | brk => exact False.elim hq
    | cont => exact False.elim hq
/-- x == y, x an instance of the own class at C whose __eq__ is at f, y of any type T that is not below C -/
def rEqO (K : PySem.W.Frag) (C : Addr) (sp : Sp) (E : XK) : R2 := fun x y H Q => ∃ a dx fs t, x = .ref a ∧ H a = some (.ins C dx fs) ∧ TyX K H y t ∧ PySem.W.notFirst K C t = true ∧ sp [x, y] H Q E
theorem op_eqO {X : Cx} {CX : CXT} {C f : Addr} {sp : Sp} {E : XK} {n : Nat} (F : FnR X.prog X.w X.K X.mg X.base CX n f sp)
    (hs : PySem.W.findIn X.K (.ref C) "__eq__" = some (some (.ref f))) (hf : PySem.W.isFn X.K (.ref f) = true) (hr : Room n X.A) (hx : Passes CX X E) : OpR X (compareOp .Eq) (rEqO X.K C sp E) := by
  intro pins s σ H x y v u Q I rx ry h
  obtain ⟨a, dx, fs, t, rfl, ha, ht, hn, q⟩ := h
  cases (show v = Value.ref a from rx)
  obtain ⟨mA, J, _⟩ := ins_get I.hok ha
  obtain ⟨od, J, _⟩ := J.look
  obtain ⟨P, Z, p, _⟩ := kit_of I ry ht
  obtain ⟨m, hF⟩ := I.fr
  show wpAny (model X.prog X.w) X.A (richCompare .Eq (.ref a) u) _ _ _
  refine PySem.W.cmp_K (op := .Eq) (tb := t) hr.units0 hF I.ok.mod.kin J (Z.ty _ _ I.kIn p) hn hs hf ?_
  refine wpAny_mono (wpAny_call (run_fnR (us := [.ref a, u]) (vs := [.ref a, y]) F hr hx I (.cons rfl (.cons ry .nil)) q)) (fun w s' z => ?_) fun _ _ x => x
  obtain ⟨z', H', I', rz, qz⟩ := z
  exact SlX.cmpback rz ⟨z', H', I', rz, qz⟩
/-- x != y, by the same __eq__ -/
def rNeO (K : PySem.W.Frag) (C : Addr) (sp : Sp) (E : XK) : R2 := fun x y H Q => ∃ a dx fs t, x = .ref a ∧ H a = some (.ins C dx fs) ∧ TyX K H y t ∧ PySem.W.notFirst K C t = true ∧ sp [x, y] H (fun v H' => ∃ c, v = .bl c ∧ Q (.bl (!c)) H') E
theorem op_neO {X : Cx} {CX : CXT} {C f : Addr} {sp : Sp} {E : XK} {n : Nat} (F : FnR X.prog X.w X.K X.mg X.base CX n f sp)
    (hs : PySem.W.findIn X.K (.ref C) "__eq__" = some (some (.ref f))) (hf : PySem.W.isFn X.K (.ref f) = true) (hne : PySem.W.findIn X.K (.ref C) "__ne__" = some (some (.builtin "object.__ne__"))) (hsub : PySem.W.subIn X.K (.ref C) (.type "object") = some true)
    (hr : Room (n + 1) X.A) (hx : Passes CX X E) : OpR X (compareOp .NotEq) (rNeO X.K C sp E) := by
  intro pins s σ H x y v u Q I rx ry h
  obtain ⟨a, dx, fs, t, rfl, ha, ht, hn, q⟩ := h
  cases (show v = Value.ref a from rx)
  obtain ⟨mA, J, _⟩ := ins_get I.hok ha
  obtain ⟨od, J, _⟩ := J.look
  obtain ⟨P, Z, p, _⟩ := kit_of I ry ht
  obtain ⟨m, hF⟩ := I.fr
  show wpAny (model X.prog X.w) X.A (richCompare .NotEq (.ref a) u) _ _ _
  refine PySem.W.ne_K (tb := t) hr.in1.units0 hF I.ok.mod.kin J (Z.ty _ _ I.kIn p) hn hs hf hne hsub ?_
  refine wpAny_mono (wpAny_call (run_fnR1 (us := [.ref a, u]) (vs := [.ref a, y]) F hr hx I (.cons rfl (.cons ry .nil)) q)) (fun w s' z => ?_) fun _ _ x => x
  obtain ⟨z', H', I', rz, c, rfl, qz⟩ := z
  exact ⟨c, rz, .bl (!c), H', I', rfl, qz⟩
end L2


set_option Elab.async false
set_option linter.all false
set_option maxRecDepth 100000
set_option maxHeartbeats 1000000
set_option autoImplicit false
namespace Hc
open PySem L2
/-! things of ints, None and tuples, at most n deep, as data -/
def isIn : Nat → D → Bool
  | _, .int _ => true
  | _, .non => true
  | n + 1, .tup ds => ds.all (isIn n)
  | _, _ => false
def pDn : Nat → D → PyData
  | _, .int i => .int i
  | n + 1, .tup ds => .tuple (ds.map (pDn n))
  | _, _ => .none
theorem isIn_tup {n : Nat} {ds : List D} : isIn (n + 1) (.tup ds) = ds.all (isIn n) := rfl
theorem isIn_int {n : Nat} {i : Int} : isIn n (.int i) = true := by cases n <;> rfl
theorem isIn_non {n : Nat} : isIn n .non = true := by cases n <;> rfl
theorem pDn_tup {n : Nat} {ds : List D} : pDn (n + 1) (.tup ds) = .tuple (ds.map (pDn n)) := rfl
theorem pDn_int {n : Nat} {i : Int} : pDn n (.int i) = .int i := by cases n <;> rfl
theorem pDn_non {n : Nat} : pDn n .non = .none := by cases n <;> rfl
theorem isIn_ints {n : Nat} (l : List Int) : (l.map D.int).all (isIn n) = true := by
  rw [List.all_eq_true]
  intro d hd
  obtain ⟨i, _, rfl⟩ := List.mem_map.mp hd
  exact isIn_int
theorem layP : ∀ n : Nat, ∀ d : D, (pDn n d).canLay0 = true ∧ (pDn n d).depth ≤ n
  | n, .int i => by rw [pDn_int]; exact ⟨rfl, Nat.zero_le _⟩
  | n, .non => by rw [pDn_non]; exact ⟨rfl, Nat.zero_le _⟩
  | 0, .str s => ⟨rfl, Nat.zero_le _⟩
  | n + 1, .str s => ⟨rfl, Nat.zero_le _⟩
  | 0, .bl b => ⟨rfl, Nat.zero_le _⟩
  | n + 1, .bl b => ⟨rfl, Nat.zero_le _⟩
  | 0, .lst => ⟨rfl, Nat.zero_le _⟩
  | n + 1, .lst => ⟨rfl, Nat.zero_le _⟩
  | 0, .dct => ⟨rfl, Nat.zero_le _⟩
  | n + 1, .dct => ⟨rfl, Nat.zero_le _⟩
  | 0, .tup ds => ⟨rfl, Nat.zero_le _⟩
  | n + 1, .tup ds => by
    have key : ∀ ds : List D, PyData.canLayAll0 (ds.map (pDn n)) = true ∧ PyData.depthAll (ds.map (pDn n)) ≤ n := by
      intro ds
      induction ds with
      | nil => exact ⟨rfl, Nat.zero_le _⟩
      | cons d ds ih =>
        obtain ⟨h3, h4⟩ := layP n d
        refine ⟨?_, ?_⟩
        · show ((pDn n d).canLay0 && PyData.canLayAll0 (ds.map (pDn n))) = true
          rw [h3, ih.1]; rfl
        · show max (pDn n d).depth (PyData.depthAll (ds.map (pDn n))) ≤ n
          omega
    refine ⟨(key ds).1, ?_⟩
    show PyData.depthAll (ds.map (pDn n)) + 1 ≤ n + 1
    have := (key ds).2
    omega
theorem shP {n : Nat} (h : n ≤ 64) (d : D) : SeqAt.shaped (pDn n d) = true := by
  obtain ⟨h1, h2⟩ := layP n d
  show ((pDn n d).canLay0 && decide ((pDn n d).depth ≤ 64)) = true
  rw [h1, decide_eq_true (by omega)]; rfl
theorem eqP : ∀ (n : Nat) (a b : D), isIn n a = true → isIn n b = true → (PyData.eqv (pDn n a) (pDn n b) = true ↔ a = b) := by
  intro n
  induction n with
  | zero =>
    intro a b ha hb
    cases a <;> cases b <;> simp_all [isIn, pDn, PyData.eqv]
  | succ n ih =>
    intro a b ha hb
    have key : ∀ xs ys : List D, xs.all (isIn n) = true → ys.all (isIn n) = true → (PyData.eqvAll (xs.map (pDn n)) (ys.map (pDn n)) = true ↔ xs = ys) := by
      intro xs
      induction xs with
      | nil =>
        intro ys _ _
        cases ys with
        | nil => simp [PyData.eqvAll]
        | cons y ys => simp [PyData.eqvAll]
      | cons x xs ih2 =>
        intro ys hx hy
        cases ys with
        | nil => simp [PyData.eqvAll]
        | cons y ys =>
          rw [List.all_cons, Bool.and_eq_true] at hx hy
          rw [List.map_cons, List.map_cons]
          simp only [PyData.eqvAll, Bool.and_eq_true, List.cons.injEq]
          rw [ih x y hx.1 hy.1, ih2 ys hx.2 hy.2]
    cases a with
    | tup xs =>
      cases b with
      | tup ys =>
        have e : PyData.eqv (pDn (n + 1) (.tup xs)) (pDn (n + 1) (.tup ys)) = PyData.eqvAll (xs.map (pDn n)) (ys.map (pDn n)) := by
          rw [pDn_tup, pDn_tup]; simp only [PyData.eqv]
        rw [e, key xs ys ha hb]
        constructor
        · intro h; rw [h]
        · intro h; injection h
      | _ => simp_all [isIn, pDn, PyData.eqv]
    | _ => cases b <;> simp_all [isIn, pDn, PyData.eqv]
section
variable {K : PySem.W.Frag} {H : Hp} {h : Addr}
theorem dpP : ∀ (n : Nat) {v : V} {d : D}, Rp H h v d → isIn n d = true → Dp K H v (pDn n d) := by
  intro n
  induction n with
  | zero =>
    intro v d r i
    cases r with
    | non => exact .non
    | int j => exact .int j
    | _ => exact Bool.noConfusion i
  | succ n ih =>
    intro v d r i
    cases r with
    | non => exact .non
    | int j => exact .int j
    | @tup a xs ds e z ra =>
      refine .tup (SqT.of e) ?_
      have i : ds.all (isIn n) = true := i
      clear e z
      induction ds generalizing xs with
      | nil => cases ra; exact .nil
      | cons d ds ih2 =>
        cases ra with
        | cons r1 r2 =>
          rw [List.all_cons, Bool.and_eq_true] at i
          exact .cons (ih r1 i.1) (ih2 r2 i.2 i.2)
    | _ => exact Bool.noConfusion i
theorem eqDP {n : Nat} (hn : n ≤ 64) {v w : V} {a b : D} {Q : VK} (r1 : Rp H h v a) (r2 : Rp H h w b) (i1 : isIn n a = true) (i2 : isIn n b = true) (k : ∀ c : Bool, (c = true ↔ a = b) → Q (.bl c) H) : rEqD K v w H Q :=
  ⟨_, _, dpP n r1 i1, dpP n r2 i2, shP hn a, shP hn b, k _ (eqP n a b i1 i2)⟩
theorem neDP {n : Nat} (hn : n ≤ 64) {v w : V} {a b : D} {Q : VK} (r1 : Rp H h v a) (r2 : Rp H h w b) (i1 : isIn n a = true) (i2 : isIn n b = true) (k : ∀ c : Bool, (c = true ↔ a ≠ b) → Q (.bl c) H) : rNeD K v w H Q := by
  refine ⟨_, _, dpP n r1 i1, dpP n r2 i2, shP hn a, shP hn b, k _ ?_⟩
  have := eqP n a b i1 i2
  rw [Bool.not_eq_true']
  constructor
  · intro z e
    rw [this.mpr e] at z; cases z
  · intro z
    cases g : PyData.eqv (pDn n a) (pDn n b) with
    | false => rfl
    | true => exact absurd (this.mp g) z
end
end Hc


set_option Elab.async false
set_option linter.all false
set_option maxRecDepth 100000
set_option maxHeartbeats 1000000
set_option autoImplicit false
namespace L2
open PySem PySem.Spec PyProof.Rows
/-- one of two readings -/
theorem op_alt {X : Cx} {f : Value → Value → Sem Value} {r1 r2 : R2} (a : OpR X f r1) (b : OpR X f r2) : OpR X f (fun x y H Q => r1 x y H Q ∨ r2 x y H Q) := by
  intro pins s σ H x y v u Q I rx ry h
  rcases h with h | h
  · exact a pins s σ H x y v u Q I rx ry h
  · exact b pins s σ H x y v u Q I rx ry h
end L2
namespace Hc
open PySem L2
theorem isIn_noL : ∀ (n : Nat) {d : D}, isIn n d = true → noL d = true := by
  intro n
  induction n with
  | zero =>
    intro d i
    cases d with
    | int j => rfl
    | non => rfl
    | _ => exact Bool.noConfusion i
  | succ n ih =>
    intro d i
    cases d with
    | int j => rfl
    | non => rfl
    | tup ds =>
      have i : ds.all (isIn n) = true := i
      show noLs ds = true
      induction ds with
      | nil => rfl
      | cons d ds ih2 =>
        rw [List.all_cons, Bool.and_eq_true] at i
        show (noL d && noLs ds) = true
        rw [ih i.1, ih2 i.2]
        · rfl
        · exact i.2
    | _ => exact Bool.noConfusion i
theorem isIn_rds {n : Int} : ∀ {rds : List D}, rds.all (isBE n) = true → rds.all (isIn 1) = true
  | [], _ => rfl
  | d :: rds, e => by
    rw [List.all_cons, Bool.and_eq_true] at e
    obtain ⟨a, b, rfl, _⟩ := be_full e.1
    rw [List.all_cons, isIn_rds e.2]; rfl
theorem isIn_lt (l : Lt) : isIn 2 (ltD l) = true := by
  show ((isIn 1 (nD l.1)) && (isIn 1 (.int l.2) && true)) = true
  have h : isIn 1 (nD l.1) = true := by
    show (l.1.map fun j => D.int (j : Nat)).all (isIn 0) = true
    rw [List.all_eq_true]
    intro d hd
    obtain ⟨j, _, rfl⟩ := List.mem_map.mp hd
    rfl
  rw [h]; rfl
theorem isIn_lts (ls : List Lt) : isIn 3 (ltsD ls) = true := by
  show (ls.map ltD).all (isIn 2) = true
  rw [List.all_eq_true]
  intro d hd
  obtain ⟨l, _, rfl⟩ := List.mem_map.mp hd
  exact isIn_lt l
theorem isIn_rows (rows : List (List Int)) : isIn 3 (rowsD rows) = true := by
  show (rows.map rowD).all (isIn 2) = true
  rw [List.all_eq_true]
  intro d hd
  obtain ⟨r, _, rfl⟩ := List.mem_map.mp hd
  exact isIn_ints r
theorem wF_h (v1 v2 v3 v4 : V) : (webF v1 v2 v3 v4).lookup ("houses" : Str) = some v1 := by
  have h1 : ¬ (("houses" : Str) = "times") := by decide +kernel
  have h2 : ¬ (("houses" : Str) = "rooms") := by decide +kernel
  have h3 : ¬ (("houses" : Str) = "roads") := by decide +kernel
  unfold webF
  rw [lookup_putF, if_neg h1, lookup_putF, if_neg h2, lookup_putF, if_neg h3, lookup_putF, if_pos rfl]
theorem dF_w (v1 v2 v3 : V) : (dayF v1 v2 v3).lookup ("web" : Str) = some v1 := by
  unfold dayF
  rw [lookup_putF, if_neg ne_wh, lookup_putF, if_neg ne_wl, lookup_putF, if_pos rfl]
theorem dF_l (v1 v2 v3 : V) : (dayF v1 v2 v3).lookup ("letters" : Str) = some v2 := by
  unfold dayF
  rw [lookup_putF, if_neg (fun z => ne_hl z), lookup_putF, if_pos rfl]
theorem dF_h (v1 v2 v3 : V) : (dayF v1 v2 v3).lookup ("hours" : Str) = some v3 := by
  unfold dayF
  rw [lookup_putF, if_pos rfl]
/-- a web's object, all its parts known -/
structure WebX (C : Addr) (H : Hp) (h p : Addr) (n : Int) (rds : List D) (rm tm : List Int) : Prop where
  ex : ∃ (dx : Addr) (v2 v3 v4 : V), H p = some (.ins C dx (webF (.int n) v2 v3 v4)) ∧ Rp H h v2 (.tup rds) ∧ Rp H h v3 (.tup (rm.map D.int)) ∧ Rp H h v4 (.tup (tm.map D.int))
  w : WebR C H h p n rds rm tm
theorem WebX.nl {C : Addr} {H H' : Hp} {h p : Addr} {n : Int} {rds : List D} {rm tm : List Int} (x : WebX C H h p n rds rm tm) (k : NL H H') : WebX C H' h p n rds rm tm := by
  obtain ⟨dx, v2, v3, v4, e, r2, r3, r4⟩ := x.ex
  exact ⟨⟨dx, v2, v3, v4, k _ _ e (fun _ z => by cases z), r2.nl k (noL_be x.w.all), r3.nl k (noL_int _), r4.nl k (noL_int _)⟩, x.w.nl k⟩
theorem WebX.same {C : Addr} {H H' : Hp} {h p : Addr} {n : Int} {rds : List D} {rm tm : List Int} (x : WebX C H h p n rds rm tm) (s : Same H H') : WebX C H' h p n rds rm tm := x.nl (NL.of s)
/-- a day's object, all its parts known -/
structure DayX (C CW : Addr) (H : Hp) (h p : Addr) (n : Int) (rds : List D) (rm tm : List Int) (dl dh : D) : Prop where
  ex : ∃ (dx : Addr) (fs : List (Str × V)) (pw : Addr) (v2 v3 : V), H p = some (.ins C dx fs) ∧ fs.length ≤ 100 ∧ fs.lookup ("web" : Str) = some (.ref pw) ∧ fs.lookup ("letters" : Str) = some v2 ∧ fs.lookup ("hours" : Str) = some v3 ∧ WebX CW H h pw n rds rm tm ∧ Rp H h v2 dl ∧ Rp H h v3 dh
  il : isIn 3 dl = true
  ih : isIn 3 dh = true
theorem DayX.nl {C CW : Addr} {H H' : Hp} {h p : Addr} {n : Int} {rds : List D} {rm tm : List Int} {dl dh : D} (x : DayX C CW H h p n rds rm tm dl dh) (k : NL H H') : DayX C CW H' h p n rds rm tm dl dh := by
  obtain ⟨dx, fs, pw, v2, v3, e, l1, fw, fl, fh, W, r2, r3⟩ := x.ex
  exact ⟨⟨dx, fs, pw, v2, v3, k _ _ e (fun _ z => by cases z), l1, fw, fl, fh, W.nl k, r2.nl k (isIn_noL 3 x.il), r3.nl k (isIn_noL 3 x.ih)⟩, x.il, x.ih⟩
theorem DayX.same {C CW : Addr} {H H' : Hp} {h p : Addr} {n : Int} {rds : List D} {rm tm : List Int} {dl dh : D} (x : DayX C CW H h p n rds rm tm dl dh) (s : Same H H') : DayX C CW H' h p n rds rm tm dl dh := x.nl (NL.of s)
theorem DayX.o {C CW : Addr} {H : Hp} {h p : Addr} {n : Int} {rds : List D} {rm tm : List Int} {ls : List Lt} {rows : List (List Int)} (x : DayX C CW H h p n rds rm tm (ltsD ls) (rowsD rows)) : DayO C CW H h p n rds rm tm ls rows := by
  obtain ⟨dx, fs, pw, v2, v3, e, l1, fw, fl, fh, W, r2, r3⟩ := x.ex
  exact ⟨dx, fs, pw, v2, v3, e, l1, fw, fl, fh, W.w, r2, r3⟩
section
variable {P : Program} {w : World} {K : PySem.W.Frag} {mg : Str → Option Value} {base : Heap}
def spWebEq (K : PySem.W.Frag) (C : Addr) : Sp := fun vs H Q _ =>
  (∃ (h p q : Addr) (n n' : Int) (rds rds' : List D) (rm tm rm' tm' : List Int), vs = [.ref p, .ref q] ∧ WebX C H h p n rds rm tm ∧ WebX C H h q n' rds' rm' tm' ∧ ∀ c : Bool, (c = true ↔ (n = n' ∧ rds = rds' ∧ rm = rm' ∧ tm = tm')) → Q (.bl c) H) ∨
  (∃ (p : Addr) (y : V) (t : Value), vs = [.ref p, y] ∧ TyX K H y t ∧ PySem.W.kitOne K t (.ref C) = some false ∧ Q (.bl false) H)
theorem tup_eq {a b : List D} : (D.tup a = D.tup b) ↔ a = b := ⟨fun e => by injection e, fun e => by rw [e]⟩
theorem ok_Web___eq (T : Tx K mg) : FnOk P w K mg base CX0 1 T.e_Web.f T.e_Web.fd ["self", "other"] (spWebEq K T.Web.C) := by
  refine T.e_Web.F.ok sc_Web___eq (fun vs H Q E h => ?_) (fun cdv A outer s H vs Q E hr h => ?_)
  · rcases h with ⟨_, _, _, _, _, _, _, _, _, _, _, rfl, _⟩ | ⟨_, _, _, rfl, _⟩ <;> rfl
  · rcases h with ⟨h, p, q, n, n', rds, rds', rm, tm, rm', tm', rfl, W, W', k⟩ | ⟨p, y, t, rfl, ty, hk, k⟩
    · obtain ⟨dx, v2, v3, v4, ep, r2, r3, r4⟩ := W.ex
      obtain ⟨dx', v2', v3', v4', ep', r2', r3', r4'⟩ := W'.ex
      refine ⟨_, (pss_one (ps_ret (pe_and (pe_callB call_isi (by rfl) T.n_isinstance (by decide +kernel) (pa_cons (pv 1) (pa_cons (pe_glob (v := .ref T.Web.C) rfl T.Web.g rfl) pa_nil))) (pe_and (pe_cmpR op_eq (pe_fld (pv 0) rfl) (pe_fld (pv 1) rfl) (nomark _)) (pe_and (pe_cmpR (op_eqD hr.units) (pe_fld (pv 0) rfl) (pe_fld (pv 1) rfl) (nomark _)) (pe_and (pe_cmpR (op_eqD hr.units) (pe_fld (pv 0) rfl) (pe_fld (pv 1) rfl) (nomark _)) (pe_one (pe_cmpR (op_eqD hr.units) (pe_fld (pv 0) rfl) (pe_fld (pv 1) rfl) (nomark _))))))))), ?_⟩
      have no : ∀ f ∈ (["houses", "roads", "rooms", "times"] : List Str), NoAttr K T.Web.C f := T.Web.no
      refine ⟨_, rfl, _, _, _, _, _, rfl, .own _, .base (.ins ep' T.Web.cl T.e_Web.ha T.e_Web.hn T.e_Web.ht T.e_Web.hm), T.e_Web.k, _, rfl, iteT ?_⟩
      refine ⟨_, rfl, p, T.Web.C, dx, _, _, rfl, ep, T.Web.cl, no _ (by simp), wF_h _ _ _ _, _, rfl, q, T.Web.C, dx', _, _, rfl, ep', T.Web.cl, no _ (by simp), wF_h _ _ _ _, rfl, _, rfl, ?_⟩
      rw [int_eqd]
      by_cases e1 : n = n'
      · rw [decide_eq_true e1]
        refine iteT ⟨_, rfl, p, T.Web.C, dx, _, _, rfl, ep, T.Web.cl, no _ (by simp), wF_r _ _ _ _, _, rfl, q, T.Web.C, dx', _, _, rfl, ep', T.Web.cl, no _ (by simp), wF_r _ _ _ _, ?_⟩
        refine eqDP (n := 2) (by decide) r2 r2' (isIn_rds W.w.all) (isIn_rds W'.w.all) fun c2 h2 => ⟨_, rfl, ?_⟩
        rw [tup_eq] at h2
        cases c2 with
        | false => exact iteF (k false ⟨fun z => (by cases z), fun z => h2.mpr z.2.1⟩)
        | true =>
        have h2 := h2.mp rfl
        refine iteT ⟨_, rfl, p, T.Web.C, dx, _, _, rfl, ep, T.Web.cl, no _ (by simp), wF_m _ _ _ _, _, rfl, q, T.Web.C, dx', _, _, rfl, ep', T.Web.cl, no _ (by simp), wF_m _ _ _ _, ?_⟩
        refine eqDP (n := 2) (by decide) r3 r3' (isIn_ints rm) (isIn_ints rm') fun c3 h3 => ⟨_, rfl, ?_⟩
        rw [tup_eq] at h3
        cases c3 with
        | false => exact iteF (k false ⟨fun z => (by cases z), fun z => h3.mpr (by rw [z.2.2.1])⟩)
        | true =>
        have h3 := int_map_inj (h3.mp rfl)
        refine iteT ⟨_, rfl, p, T.Web.C, dx, _, _, rfl, ep, T.Web.cl, no _ (by simp), wF_t _ _ _ _, _, rfl, q, T.Web.C, dx', _, _, rfl, ep', T.Web.cl, no _ (by simp), wF_t _ _ _ _, ?_⟩
        refine eqDP (n := 2) (by decide) r4 r4' (isIn_ints tm) (isIn_ints tm') fun c4 h4 => k c4 ?_
        rw [tup_eq] at h4
        exact ⟨fun z => ⟨e1, h2, h3, int_map_inj (h4.mp z)⟩, fun z => h4.mpr (by rw [z.2.2.2])⟩
      · rw [decide_eq_false e1]
        exact iteF (k false ⟨fun z => (by cases z), fun z => absurd z.1 e1⟩)
    · refine ⟨_, (pss_one (ps_ret (pe_and (pe_callB call_isi (by rfl) T.n_isinstance (by decide +kernel) (pa_cons (pv 1) (pa_cons (pe_glob (v := .ref T.Web.C) rfl T.Web.g rfl) pa_nil))) (pe_and (pe_cmpR op_eq (pe_fld (pv 0) rfl) (pe_fld (pv 1) rfl) (nomark _)) (pe_and (pe_cmpR (op_eqD hr.units) (pe_fld (pv 0) rfl) (pe_fld (pv 1) rfl) (nomark _)) (pe_and (pe_cmpR (op_eqD hr.units) (pe_fld (pv 0) rfl) (pe_fld (pv 1) rfl) (nomark _)) (pe_one (pe_cmpR (op_eqD hr.units) (pe_fld (pv 0) rfl) (pe_fld (pv 1) rfl) (nomark _))))))))), ?_⟩
      exact ⟨_, rfl, _, _, _, _, _, rfl, .own _, ty, hk, _, rfl, iteF k⟩
theorem webEqR (T : Tx K mg) : FnR P w K mg base CX0 1 T.e_Web.f (spWebEq K T.Web.C) := by
  exact (FnOk.raw (ok_Web___eq (P := P) (w := w) (base := base) T) T.e_Web.b .nil).imp fun vs H Q E q => by rw [List.append_nil]; exact q
theorem nfSelf {K : PySem.W.Frag} {C : Addr} : PySem.W.notFirst K C (.ref C) = true := by
  unfold PySem.W.notFirst
  simp
theorem nfOf {K : PySem.W.Frag} {C : Addr} {t : Value} (h : PySem.W.subIn K t (.ref C) = some false) : PySem.W.notFirst K C t = true := by
  unfold PySem.W.notFirst
  rw [h]; simp
theorem webTy (T : Tx K mg) {H : Hp} {h p : Addr} {n : Int} {rds : List D} {rm tm : List Int} (W : WebX T.Web.C H h p n rds rm tm) : TyX K H (.ref p) (.ref T.Web.C) := by
  obtain ⟨dx, v2, v3, v4, ep, _⟩ := W.ex
  exact .base (.ins ep T.Web.cl T.e_Web.ha T.e_Web.hn T.e_Web.ht T.e_Web.hm)
theorem eqWW (T : Tx K mg) {H : Hp} {h p q : Addr} {n n' : Int} {rds rds' : List D} {rm tm rm' tm' : List Int} {Q : VK} {E : XK} (W : WebX T.Web.C H h p n rds rm tm) (W' : WebX T.Web.C H h q n' rds' rm' tm')
    (k : ∀ c : Bool, (c = true ↔ (n = n' ∧ rds = rds' ∧ rm = rm' ∧ tm = tm')) → Q (.bl c) H) : rEqO K T.Web.C (spWebEq K T.Web.C) E (.ref p) (.ref q) H Q := by
  obtain ⟨dx, v2, v3, v4, ep, _⟩ := W.ex
  exact ⟨p, dx, _, _, rfl, ep, webTy T W', nfSelf, .inl ⟨h, p, q, n, n', rds, rds', rm, tm, rm', tm', rfl, W, W', k⟩⟩
theorem neWW (T : Tx K mg) {H : Hp} {h p q : Addr} {n n' : Int} {rds rds' : List D} {rm tm rm' tm' : List Int} {Q : VK} {E : XK} (W : WebX T.Web.C H h p n rds rm tm) (W' : WebX T.Web.C H h q n' rds' rm' tm')
    (k : ∀ c : Bool, (c = true ↔ (n = n' ∧ rds = rds' ∧ rm = rm' ∧ tm = tm')) → Q (.bl (!c)) H) : rNeO K T.Web.C (spWebEq K T.Web.C) E (.ref p) (.ref q) H Q := by
  obtain ⟨dx, v2, v3, v4, ep, _⟩ := W.ex
  exact ⟨p, dx, _, _, rfl, ep, webTy T W', nfSelf, .inl ⟨h, p, q, n, n', rds, rds', rm, tm, rm', tm', rfl, W, W', fun c hc => ⟨c, rfl, k c hc⟩⟩⟩
theorem eqWO (T : Tx K mg) {H : Hp} {h p : Addr} {y : V} {t : Value} {n : Int} {rds : List D} {rm tm : List Int} {Q : VK} {E : XK} (W : WebX T.Web.C H h p n rds rm tm) (ty : TyX K H y t) (f : PySem.W.subIn K t (.ref T.Web.C) = some false ∧ PySem.W.kitOne K t (.ref T.Web.C) = some false)
    (k : Q (.bl false) H) : rEqO K T.Web.C (spWebEq K T.Web.C) E (.ref p) y H Q := by
  obtain ⟨dx, v2, v3, v4, ep, _⟩ := W.ex
  exact ⟨p, dx, _, _, rfl, ep, ty, nfOf f.1, .inr ⟨p, y, t, rfl, ty, f.2, k⟩⟩
theorem neWO (T : Tx K mg) {H : Hp} {h p : Addr} {y : V} {t : Value} {n : Int} {rds : List D} {rm tm : List Int} {Q : VK} {E : XK} (W : WebX T.Web.C H h p n rds rm tm) (ty : TyX K H y t) (f : PySem.W.subIn K t (.ref T.Web.C) = some false ∧ PySem.W.kitOne K t (.ref T.Web.C) = some false)
    (k : Q (.bl true) H) : rNeO K T.Web.C (spWebEq K T.Web.C) E (.ref p) y H Q := by
  obtain ⟨dx, v2, v3, v4, ep, _⟩ := W.ex
  exact ⟨p, dx, _, _, rfl, ep, ty, nfOf f.1, .inr ⟨p, y, t, rfl, ty, f.2, false, rfl, k⟩⟩
def DSame (n n' : Int) (rds rds' : List D) (rm tm rm' tm' : List Int) (dl dh dl' dh' : D) : Prop := (n = n' ∧ rds = rds' ∧ rm = rm' ∧ tm = tm') ∧ dl = dl' ∧ dh = dh'
def spDayEq (K : PySem.W.Frag) (C CW : Addr) : Sp := fun vs H Q _ =>
  (∃ (h p q : Addr) (n n' : Int) (rds rds' : List D) (rm tm rm' tm' : List Int) (dl dh dl' dh' : D), vs = [.ref p, .ref q] ∧ DayX C CW H h p n rds rm tm dl dh ∧ DayX C CW H h q n' rds' rm' tm' dl' dh' ∧ ∀ c : Bool, (c = true ↔ DSame n n' rds rds' rm tm rm' tm' dl dh dl' dh') → Q (.bl c) H) ∨
  (∃ (p : Addr) (y : V) (t : Value), vs = [.ref p, y] ∧ TyX K H y t ∧ PySem.W.kitOne K t (.ref C) = some false ∧ Q (.bl false) H)
theorem eqDO (T : Tx K mg) {H : Hp} {h p : Addr} {y : V} {t : Value} {n : Int} {rds : List D} {rm tm : List Int} {dl dh : D} {Q : VK} {E : XK} (W : DayX T.Day.C T.Web.C H h p n rds rm tm dl dh) (ty : TyX K H y t) (f : PySem.W.subIn K t (.ref T.Day.C) = some false ∧ PySem.W.kitOne K t (.ref T.Day.C) = some false)
    (k : Q (.bl false) H) : rEqO K T.Day.C (spDayEq K T.Day.C T.Web.C) E (.ref p) y H Q := by
  obtain ⟨dx, fs, pw, v2, v3, ep, _⟩ := W.ex
  exact ⟨p, dx, _, _, rfl, ep, ty, nfOf f.1, .inr ⟨p, y, t, rfl, ty, f.2, k⟩⟩
theorem neDO (T : Tx K mg) {H : Hp} {h p : Addr} {y : V} {t : Value} {n : Int} {rds : List D} {rm tm : List Int} {dl dh : D} {Q : VK} {E : XK} (W : DayX T.Day.C T.Web.C H h p n rds rm tm dl dh) (ty : TyX K H y t) (f : PySem.W.subIn K t (.ref T.Day.C) = some false ∧ PySem.W.kitOne K t (.ref T.Day.C) = some false)
    (k : Q (.bl true) H) : rNeO K T.Day.C (spDayEq K T.Day.C T.Web.C) E (.ref p) y H Q := by
  obtain ⟨dx, fs, pw, v2, v3, ep, _⟩ := W.ex
  exact ⟨p, dx, _, _, rfl, ep, ty, nfOf f.1, .inr ⟨p, y, t, rfl, ty, f.2, false, rfl, k⟩⟩
end
end Hc


set_option Elab.async false
set_option linter.all false
set_option maxRecDepth 100000
set_option maxHeartbeats 1000000
set_option autoImplicit false
namespace L2
open PySem PySem.Spec PyProof.Rows
/-- either of two readings -/
theorem pi_or {X : Cx} {tg e : Expr} {w1 w2 : TI} (h1 : PI X tg e w1) (h2 : PI X tg e w2) : PI X tg e (fun σ H R => w1 σ H R ∨ w2 σ H R) where
  run pins s σ H R I h := by
    rcases h with h | h
    · exact h1.run pins s σ H R I h
    · exact h2.run pins s σ H R I h
end L2
namespace Hc
open PySem L2
/-- [p(x) for x in l], l a list of things -/
theorem all_lst {K : PySem.W.Frag} {H : Hp} {h a A : Addr} {xs : List V} {ds : List D} {j : Nat} {te : TE} {σ : St} {vs : List Nat} {Qd : Hp → Prop}
    (e : H a = some (.lst xs)) (z : xs.length ≤ 100000) (ra : RpA H h xs ds) (p : D → Bool) (hA : H A = none)
    (hw : ∀ x, wipe ((wipe σ vs).set j (some x)) vs = wipe σ vs)
    (hs : ∀ x d H' (Q : VK), Same H H' → Rp H' h x d → (∀ H4, Same H' H4 → Q (.bl (p d)) H4) → te ((wipe σ vs).set j (some x)) H' Q)
    (hd : ∀ H', Same H H' → SqL K H' A ((ds.map p).map V.bl) → Qd H') :
    ∃ W : Nat → Nat → Hp → Prop, (∃ m, W 0 m (upd H A (.lst []))) ∧ ∀ i m H, W i m H →
      ((Itl K a).stop i H ∧ Qd H) ∨ ((Itl K a).go i H ∧ ∃ Nx : Hp → Prop, (∀ H', Nx H' → ∃ m', m' < m ∧ W (i + 1) m' H') ∧ ∀ x H', (Itl K a).yld i H x H' → (gName j) x (wipe σ vs) H' fun σ2 H2 => wipe σ2 vs = wipe σ vs ∧ tYes σ2 H2 fun b H3 =>
        if b = true then te σ2 H3 fun y H4 => ∃ acc, H4 A = some (.lst acc) ∧ acc.length < sizeLine ∧ Nx (upd H4 A (.lst (acc ++ [y]))) else Nx H3) := by
  have hl := ra.len
  refine lc_list (K := K) (xs := xs) (fun i H' => Same H (fun b => if b = A then none else H' b) ∧ H' A = some (.lst (((ds.take i).map p).map V.bl)))
    ⟨mask_upd hA (Same.refl _), upd_same⟩ (fun i H' hi ⟨s, _⟩ => SqL.of (mask hA s _ _ e)) ?_ ?_
  · intro i x H' hx ⟨s, hH⟩
    have sm := mask hA s
    obtain ⟨d, hd1, rp⟩ := ra.get hx
    have hi : i < xs.length := (List.getElem?_eq_some_iff.mp hx).1
    refine ⟨hw x, tyes (hs x d H' _ sm (rp.same sm) fun H4 s4 => ⟨_, s4 _ _ hH, ?_, mask_upd hA (sm.trans s4), ?_⟩)⟩
    · rw [List.length_map, List.length_map, List.length_take]
      exact line_lt (by omega)
    · rw [upd_same, take_more hd1, List.map_append, List.map_append]; rfl
  · intro H' ⟨s, hH⟩
    rw [hl, List.take_length] at hH
    exact hd H' (mask hA s) (SqL.of hH)
/-- the chosen items -/
def pick {α : Type} (l : List α) (ks : List Nat) : List α := ks.filterMap fun k => l[k]?
theorem pick_cons {α : Type} {l : List α} {k : Nat} {x : α} (ks : List Nat) (h : l[k]? = some x) : pick l (ks ++ [k]) = pick l ks ++ [x] := by
  unfold pick
  rw [List.filterMap_append, List.filterMap_cons, h]; rfl
theorem pick_len {α : Type} {l : List α} : ∀ {ks : List Nat}, (∀ k ∈ ks, k < l.length) → (pick l ks).length = ks.length
  | [], _ => rfl
  | k :: ks, h => by
    have h1 := List.getElem?_eq_getElem (h k List.mem_cons_self)
    show (List.filterMap _ _).length = _
    rw [List.filterMap_cons, h1]
    show (pick l ks).length + 1 = ks.length + 1
    rw [pick_len fun x hx => h x (List.mem_cons_of_mem _ hx)]
/-- [t[k] for k in ks], a tuple's items -/
theorem lc_pick {K : PySem.W.Frag} {H0 : Hp} {h b D : Addr} {xs : List V} {ds : List Hc.D} {ks : List Nat} {j : Nat} {te : TE} {σ : St} {vs : List Nat} {Qd : Hp → Prop}
    (eb : H0 b = some (.lst (ks.map fun j => V.int (j : Nat)))) (hz : ks.length ≤ 1000) (hD : H0 D = none) (ra : RpA H0 h xs ds) (hk : ∀ k ∈ ks, k < xs.length)
    (hw : ∀ x, wipe ((wipe σ vs).set j (some x)) vs = wipe σ vs)
    (he : ∀ k x, xs[k]? = some x → ∀ H' (Q : VK), Same H0 H' → Q x H' → te ((wipe σ vs).set j (some (.int (k : Nat)))) H' Q)
    (hd : ∀ H' ys, Same H0 H' → H' D = some (.lst ys) → RpA H' h ys (pick ds ks) → Qd H') :
    ∃ W : Nat → Nat → Hp → Prop, (∃ m, W 0 m (upd H0 D (.lst []))) ∧ ∀ i m H, W i m H →
      ((Itl K b).stop i H ∧ Qd H) ∨ ((Itl K b).go i H ∧ ∃ Nx : Hp → Prop, (∀ H', Nx H' → ∃ m', m' < m ∧ W (i + 1) m' H') ∧ ∀ x H', (Itl K b).yld i H x H' → (gName j) x (wipe σ vs) H' fun σ2 H2 => wipe σ2 vs = wipe σ vs ∧ tYes σ2 H2 fun b H3 =>
        if b = true then te σ2 H3 fun y H4 => ∃ acc, H4 D = some (.lst acc) ∧ acc.length < sizeLine ∧ Nx (upd H4 D (.lst (acc ++ [y]))) else Nx H3) := by
  refine lc_list (K := K) (xs := ks.map fun j => V.int (j : Nat)) (fun i H' => Same H0 (fun b => if b = D then none else H' b) ∧ ∃ ys, H' D = some (.lst ys) ∧ ys.length = i ∧ RpA H0 h ys (pick ds (ks.take i)))
    ⟨mask_upd hD (Same.refl _), [], upd_same, rfl, by rw [List.take_zero]; exact .nil⟩ (fun i H' hi ⟨s, _⟩ => SqL.of (mask hD s _ _ eb)) ?_ ?_
  · intro i x H' hx ⟨s, ys, hH, ly, rp⟩
    have hi : i < ks.length := by
      have := (List.getElem?_eq_some_iff.mp hx).1
      rwa [List.length_map] at this
    have ex : x = .int (ks[i] : Nat) := by
      rw [List.getElem?_map, List.getElem?_eq_getElem hi] at hx
      exact (Option.some.inj hx).symm
    subst ex
    have sm := mask hD s
    have hkx := hk _ (List.getElem_mem hi)
    have e1 := List.getElem?_eq_getElem hkx
    obtain ⟨d, hd1, rd⟩ := ra.get e1
    refine ⟨hw _, tyes (he _ _ e1 H' _ sm ⟨ys, hH, line_lt (by omega), mask_upd hD sm, ys ++ [xs[ks[i]]], upd_same, by rw [List.length_append, ly]; rfl, ?_⟩)⟩
    rw [take_more (List.getElem?_eq_getElem hi), pick_cons _ hd1]
    exact rp.app (.cons rd .nil)
  · intro H' ⟨s, ys, hH, ly, rp⟩
    rw [List.length_map, List.take_length] at rp
    exact hd H' ys (mask hD s) hH (rp.same (mask hD s))
theorem pick_map {α β : Type} (f : α → β) (l : List α) : ∀ ks : List Nat, pick (l.map f) ks = (pick l ks).map f
  | [] => rfl
  | k :: ks => by
    have ih := pick_map f l ks
    unfold pick at ih ⊢
    rw [List.filterMap_cons, List.filterMap_cons, List.getElem?_map]
    cases l[k]? with
    | none => exact ih
    | some x => show f x :: _ = f x :: _; rw [ih]
theorem in_int (r : Int) : ∀ ns : List Int, inV (.int r) (ns.map V.int) = decide (r ∈ ns)
  | [] => by simp [inV]
  | n :: ns => by
    have ih := in_int r ns
    have e : inV (.int r) ((n :: ns).map V.int) = ((n == r) || inV (.int r) (ns.map V.int)) := rfl
    rw [e, ih]
    by_cases h : r = n
    · subst h; simp
    · have h3 : (n == r) = false := by simpa using (Ne.symm h)
      rw [h3, Bool.false_or]
      by_cases h4 : r ∈ ns
      · rw [decide_eq_true h4, decide_eq_true (List.mem_cons_of_mem _ h4)]
      · rw [decide_eq_false h4, decide_eq_false (fun q => by rcases List.mem_cons.mp q with q | q; exact h q; exact h4 q)]
theorem flat_int (ns : List Int) : (ns.map V.int).all flatV = true := by
  rw [List.all_eq_true]
  intro x hx
  obtain ⟨j, _, rfl⟩ := List.mem_map.mp hx
  rfl
theorem btws_inv {lo hi : Int} : ∀ {ds : List D}, ds.all (isBtw lo hi) = true → ∃ ns : List Int, ds = ns.map D.int
  | [], _ => ⟨[], rfl⟩
  | d :: ds, h => by
    rw [List.all_cons, Bool.and_eq_true] at h
    obtain ⟨ns, rfl⟩ := btws_inv h.2
    obtain ⟨n, rfl⟩ := btw_shape h.1
    exact ⟨n :: ns, rfl⟩
section
variable {P : Program} {w : World} {K : PySem.W.Frag} {mg : Str → Option Value} {base : Heap}
theorem ok_NoNumber___init (T : Tx K mg) : FnOk P w K mg base (L2.CX P w) 1 T.x_NoNumber.f T.x_NoNumber.fd ["self"] spInitN := by
  refine T.x_NoNumber.F.okX sc_NoNumber___init (fun vs H Q E h => ?_) (fun cdv A outer s H vs Q E hr h => ?_)
  · obtain ⟨a, rfl, _⟩ := h
    rfl
  · obtain ⟨a, rfl, k⟩ := h
    exact ⟨_, pss_one ps_pass, k⟩
def spDoas (C CW : Addr) : Sp := fun vs H Q _ => ∃ (h pw : Addr) (v2 v3 : V) (n : Int) (rds : List D) (rm tm : List Int) (ls : List Lt) (rows : List (List Int)), vs = [.ref pw, v2, v3] ∧ WebX CW H h pw n rds rm tm ∧ Rp H h v2 (ltsD ls) ∧ Rp H h v3 (rowsD rows) ∧
  ∀ p H', Same H H' → DayX C CW H' h p n rds rm tm (ltsD ls) (rowsD rows) → Q (.ref p) H'
theorem ok_day_of_any_size (T : Tx K mg) : FnOk P w K mg base (L2.CX P w) 10 T.day_of_any_size.f T.day_of_any_size.fd ["web", "letters", "hours"] (spDoas T.Day.C T.Web.C) := by
  refine T.day_of_any_size.F.okX sc_day_of_any_size (fun vs H Q E h => ?_) (fun cdv A outer s H vs Q E hr h => ?_)
  · obtain ⟨_, _, _, _, _, _, _, _, _, _, rfl, _⟩ := h
    rfl
  · obtain ⟨h, pw, v2, v3, n, rds, rm, tm, ls, rows, rfl, W, r2, r3, k⟩ := h
    refine ⟨_, (pss_cons (ps_set (i := 3) sc_day_of_any_size.nd rfl (Or.inl rfl) (pe_make T.Day.mk1 (ok_Day___init T) (hr.mono (by decide)) rfl T.Day.g T.Day.b .nil passL (pa_cons (pv 0) (pa_cons (pe_tup pa_nil) (pa_cons (pe_tup pa_nil) pa_nil)))))
      (pss_cons (ps_fld (pv 3) (pv 1) rfl)
      (pss_cons (ps_fld (pv 3) (pv 2) rfl)
      (pss_one (ps_ret (pv 3)))))), ?_⟩
    refine ⟨_, rfl, by show 0 ≤ sizeLine; decide, fun e1 he1 => ?_⟩
    have s1 : Same H (upd H e1 (.tup [])) := same_upd he1
    have t1 : (upd H e1 (.tup [])) e1 = some (.tup []) := upd_same
    generalize upd H e1 (.tup []) = H1 at s1 t1 ⊢
    refine ⟨by show 0 ≤ sizeLine; decide, fun e2 he2 => ?_⟩
    have s2 : Same H1 (upd H1 e2 (.tup [])) := same_upd he2
    have t2 : (upd H1 e2 (.tup [])) e2 = some (.tup []) := upd_same
    generalize upd H1 e2 (.tup []) = H2 at s2 t2 ⊢
    have s02 := s1.trans s2
    refine fun x dx hx hdx ndx => ?_
    have sx : Same H2 (upd (upd H2 dx (.own x)) x (.ins T.Day.C dx [])) := fun b o q => by
      rw [upd_ne (ne_of_none q hx), upd_ne (ne_of_none q hdx)]; exact q
    have d0 : DayOk rds rm tm [] [] := ⟨⟨fun _ z => nomatch z⟩, by decide, ⟨rfl, fun k l r e => by simp at e⟩, rfl, rfl⟩
    refine ⟨h, x, dx, pw, .ref e1, .ref e2, ltsD [], rowsD [], n, rds, rm, tm, rfl, upd_same, (W.w.same s02).same sx, .tup (sx _ _ (s2 _ _ t1)) (by simp) .nil, .tup (sx _ _ t2) (by simp) .nil, fun ls' rows' _ _ _ H7 b7 e7 => ⟨rfl, ?_⟩, fun part hd => absurd hd d0.not⟩
    have s7 : Same H2 H7 := fun b o q => b7 _ _ (sx _ _ q) (ne_of_none q hx)
    have hx0 : H x = none := by
      cases z : H x with
      | none => rfl
      | some o => rw [s02 _ _ z] at hx; cases hx
    have no : ∀ f ∈ (["web", "letters", "hours"] : List Str), NoAttr K T.Day.C f := T.Day.no
    have l1 : (dayF (.ref pw) (.ref e1) (.ref e2)).length < 10 := putF_lt (n := 9) (putF_lt (n := 8) (putF_lt (n := 7) (by decide)))
    refine ⟨_, rfl, _, rfl, x, T.Day.C, dx, _, rfl, e7, T.Day.cl, no _ (by simp), by omega, ?_⟩
    refine ⟨_, rfl, _, rfl, x, T.Day.C, dx, _, rfl, upd_same, T.Day.cl, no _ (by simp), by have := putF_lt (f := ("letters" : Str)) (v := v2) l1; omega, ?_⟩
    refine ⟨_, rfl, ?_⟩
    have s8 : Same H (upd (upd H7 x (.ins T.Day.C dx (putF "letters" v2 (dayF (.ref pw) (.ref e1) (.ref e2))))) x (.ins T.Day.C dx (putF "hours" v3 (putF "letters" v2 (dayF (.ref pw) (.ref e1) (.ref e2)))))) := fun b o q => by
      rw [upd_ne (ne_of_none q hx0), upd_ne (ne_of_none q hx0)]
      exact s7 _ _ (s02 _ _ q)
    refine k x _ s8 ⟨⟨dx, _, pw, v2, v3, upd_same, ?_, ?_, ?_, ?_, W.same s8, r2.same s8, r3.same s8⟩, isIn_lts ls, isIn_rows rows⟩
    · have h1 := putF_lt (f := ("letters" : Str)) (v := v2) l1
      have h2 := putF_lt (f := ("hours" : Str)) (v := v3) h1
      omega
    · unfold dayF
      rw [lookup_putF, if_neg ne_wh, lookup_putF, if_neg ne_wl, lookup_putF, if_neg ne_wh, lookup_putF, if_neg ne_wl, lookup_putF, if_pos rfl]
    · rw [lookup_putF, if_neg ne_hl, lookup_putF, if_pos rfl]
    · rw [lookup_putF, if_pos rfl]
/-- what is left when the numbers ds are taken out -/
def kept (m : Nat) (ds : List D) : List Nat := (List.range m).filter fun (k : Nat) => !decide ((k : Int) ∈ ds.map num)
theorem kept_ints (m : Nat) (ns : List Int) : kept m (ns.map D.int) = (List.range m).filter fun (k : Nat) => !decide ((k : Int) ∈ ns) := by
  unfold kept
  have : (ns.map D.int).map num = ns := by
    rw [List.map_map]
    exact List.map_id' ns
  rw [this]
/-- a list or tuple of things -/
def LtAt (H : Hp) (h : Addr) (v : V) (ds : List D) : Prop := ∃ a xs, v = .ref a ∧ (H a = some (.lst xs) ∨ H a = some (.tup xs)) ∧ xs.length ≤ 1000 ∧ RpA H h xs ds
def isSeq : D → Bool | .tup _ => true | .lst => true | _ => false
def spWithout (C CW CN : Addr) : Sp := fun vs H Q E => ∃ (h p : Addr) (v : V) (n : Int) (rds : List D) (rm tm : List Int) (ls : List Lt) (rows : List (List Int)), vs = [.ref p, v] ∧ DayX C CW H h p n rds rm tm (ltsD ls) (rowsD rows) ∧ rows.length = ls.length ∧ ls.length ≤ 1000 ∧
  ((∃ d, Rp H h v d ∧ isSeq d = false ∧ ∀ H', Same H H' → E (.ref CN) none H') ∨
   ∃ ds, LtAt H h v ds ∧ (ds.all (isBtw 0 ((ls.length : Int) - 1)) = false → ∀ H', Same H H' → E (.ref CN) none H') ∧
     (ds.all (isBtw 0 ((ls.length : Int) - 1)) = true → ∀ p' ks H', Same H H' → (∀ k ∈ ks, k < ls.length) → ks = kept ls.length ds → DayX C CW H' h p' n rds rm tm (ltsD (pick ls ks)) (rowsD (pick rows ks)) → Q (.ref p') H'))
theorem kitSeq (d : D) : PySem.W.kitAny (K := K) (.type (tyOf d)) [.type "list", .type "tuple"] = some (isSeq d) := by
  cases d <;> first
    | exact kitAny_cons (kit_ty (show kitB _ "list" = some false by simp only [tyOf]; decide +kernel)) (fun _ => kitAny_cons (kit_ty (show kitB _ "tuple" = some false by simp only [tyOf]; decide +kernel)) (fun _ => kitAny_nil) (fun z => by cases z)) (fun z => by cases z)
    | exact kitAny_cons (kit_ty (show kitB _ "list" = some false by simp only [tyOf]; decide +kernel)) (fun _ => kitAny_cons (kit_ty (show kitB _ "tuple" = some true by simp only [tyOf]; decide +kernel)) (fun z => by cases z) (fun _ => rfl)) (fun z => by cases z)
    | exact kitAny_cons (kit_ty (show kitB _ "list" = some true by simp only [tyOf]; decide +kernel)) (fun z => by cases z) (fun _ => rfl)
end
end Hc


set_option Elab.async false
set_option linter.all false
set_option maxRecDepth 100000
set_option maxHeartbeats 1000000
set_option autoImplicit false
namespace Hc
open PySem L2
section
variable {P : Program} {w : World} {K : PySem.W.Frag} {mg : Str → Option Value} {base : Heap}
def shL (b : Int) (ls : List Lt) : List Lt := ls.map fun l => (l.1, l.2 + b)
def shR (b : Int) (rows : List (List Int)) : List (List Int) := rows.map fun r => r.map fun x => x + b
def spShifted (C CW CN : Addr) : Sp := fun vs H Q E => ∃ (h p : Addr) (v : V) (d : D) (n : Int) (rds : List D) (rm tm : List Int) (ls : List Lt) (rows : List (List Int)), vs = [.ref p, v] ∧ Rp H h v d ∧ DayX C CW H h p n rds rm tm (ltsD ls) (rowsD rows) ∧ ls.length ≤ 1000 ∧ rows.length ≤ 1000 ∧ (∀ r ∈ rows, r.length ≤ 1000) ∧
  (isInt d = false → ∀ H', Same H H' → E (.ref CN) none H') ∧
  ∀ b, d = .int b → ((∃ l ∈ ls, l.2 + b < 1) → ∀ H', Same H H' → E (.ref CN) none H') ∧ ((∀ l ∈ ls, 1 ≤ l.2 + b) → ∀ p' H', Same H H' → DayX C CW H' h p' n rds rm tm (ltsD (shL b ls)) (rowsD (shR b rows)) → Q (.ref p') H')
theorem ok_shifted (T : Tx K mg) : FnOk P w K mg base (L2.CX P w) 11 T.shifted.f T.shifted.fd ["day", "by"] (spShifted T.Day.C T.Web.C T.x_NoNumber.C) := by
  refine T.shifted.F.okX sc_shifted (fun vs H Q E h => ?_) (fun cdv A outer s H vs Q E hr h => ?_)
  · obtain ⟨_, _, _, _, _, _, _, _, _, _, rfl, _⟩ := h
    rfl
  · obtain ⟨h, p, v, d, n, rds, rm, tm, ls, rows, rfl, r, O, l1000, r1000, rr1000, kb, kg⟩ := h
    obtain ⟨dx, fs, pw, v2, v3, hp, lf, fw, fl, fh, W, r2, r3⟩ := O.ex
    obtain ⟨a2, xs2, rfl, e2, lx2, at_⟩ := lts_at r2
    obtain ⟨a3, xs3, rfl, e3, lx3, rat⟩ := rows_at r3
    have no : ∀ f ∈ (["web", "letters", "hours"] : List Str), NoAttr K T.Day.C f := T.Day.no
    refine ⟨_, (C8.pss_cut (ps_if (PW.pt (pw_or (pt_not (pt_val (pe_call (ok_is_integer T) (hr.mono (by decide)) rfl T.is_integer.g T.is_integer.F.kp T.is_integer.b .nil pass0 (pa_cons (pv 1) pa_nil)))) (pw_or1 (pt_val (pe_callB (cr_any rfl) (by rfl) T.n_any (by decide +kernel) (pa_cons (pe_lc (own := [("_", 4), ("come", 5)]) (g := (gTup K 2 (gCons (gName 4) (gCons (gName 5) gNil)))) (tt := tYes) rfl sc_shifted.nd (pi_tup (pe_fld (pv 0) rfl)) (blkOk_by (own := [("_", 4), ("come", 5)]) (N := ["day", "by", "letters", "hours", "_", "come", "way", "row", "hour"]) (sc := defScope s_shifted) (by decide +kernel)) (fun _ _ _ _ _ => (pg_tup (by rfl) (pgs_cons (pg_name (i := 4) sc_shifted.nd rfl (Or.inl rfl)) (pgs_cons (pg_name (i := 5) sc_shifted.nd rfl (Or.inl rfl)) pgs_nil)))) (fun _ _ _ _ _ => pts_nil) (fun _ _ _ _ _ => (by exact (pe_cmpR op_lt (pe_op op_add (pv 5) (pv 1)) pe_int (nomark _))))) pa_nil))))))
      (pss_one (ps_raise rfl (takes_of rfl rfl rfl rfl) (pmk_oexN T.x_NoNumber.T T.x_NoNumber.iC T.x_NoNumber.tI (ok_NoNumber___init T) (hr.mono (by decide)) T.x_NoNumber.b passL rfl T.x_NoNumber.g)))
      pss_nil)
      (pss_cons (ps_set (i := 2) sc_shifted.nd rfl (Or.inl rfl) (pe_callTy call_tuple_of (by rfl) T.n_tuple (by decide +kernel) (pa_cons (pe_lc (own := [("way", 6), ("come", 5)]) (g := (gTup K 2 (gCons (gName 6) (gCons (gName 5) gNil)))) (tt := tYes) rfl sc_shifted.nd (pi_tup (pe_fld (pv 0) rfl)) (blkOk_by (own := [("way", 6), ("come", 5)]) (N := ["day", "by", "letters", "hours", "_", "come", "way", "row", "hour"]) (sc := defScope s_shifted) (by decide +kernel)) (fun _ _ _ _ _ => (pg_tup (by rfl) (pgs_cons (pg_name (i := 6) sc_shifted.nd rfl (Or.inl rfl)) (pgs_cons (pg_name (i := 5) sc_shifted.nd rfl (Or.inl rfl)) pgs_nil)))) (fun _ _ _ _ _ => pts_nil) (fun _ _ _ _ _ => (by exact (pe_tup (pa_cons (pv 6) (pa_cons (pe_op op_add (pv 5) (pv 1)) pa_nil)))))) pa_nil)))
      (pss_cons (ps_set (i := 3) sc_shifted.nd rfl (Or.inl rfl) (pe_callTy call_tuple_of (by rfl) T.n_tuple (by decide +kernel) (pa_cons (pe_lc (own := [("row", 7)]) (g := (gName 7)) (tt := tYes) (te := (tCB (rTupOf K) (tCons (tLc (iTup K (tVar 7)) (gName 8) tYes (tOp (rI0 fun i j => .int (i + j)) (tVar 8) (tVar 1)) (([("hour", 8)] : List (Str × Nat)).map (·.2))) tNil))) rfl sc_shifted.nd (pi_tup (pe_fld (pv 0) rfl)) (blkOk_by (own := [("row", 7)]) (N := ["day", "by", "letters", "hours", "_", "come", "way", "row", "hour"]) (sc := defScope s_shifted) (by decide +kernel)) (fun _ _ _ _ _ => (pg_name (i := 7) sc_shifted.nd rfl (Or.inl rfl))) (fun _ _ _ _ _ => pts_nil) (fun _ _ _ _ _ => (by exact (pe_callTy call_tuple_of (by rfl) T.n_tuple (by decide +kernel) (pa_cons (pe_lc (own := [("hour", 8)]) (g := (gName 8)) (tt := tYes) rfl sc_shifted.nd (pi_tup (pv 7)) (blkOk_by (own := [("hour", 8)]) (N := ["day", "by", "letters", "hours", "_", "come", "way", "row", "hour"]) (sc := ({ kind := .function, names := [(".0", .local), ("row", .local), ("tuple", .globalImplicit), ("by", .cell)], isGenerator := false, isCoroutine := false } : Scope)) (by decide +kernel)) (fun _ _ _ _ _ => (pg_name (i := 8) sc_shifted.nd rfl (Or.inl rfl))) (fun _ _ _ _ _ => pts_nil) (fun _ _ _ _ _ => (by exact (pe_op op_add (pv 8) (pv 1))))) pa_nil))))) pa_nil)))
      (pss_one (ps_ret (pe_call (ok_day_of_any_size T) (hr.mono (by decide)) rfl T.day_of_any_size.g T.day_of_any_size.F.kp T.day_of_any_size.b .nil passL (pa_cons (pe_fld (pv 0) rfl) (pa_cons (pv 2) (pa_cons (pv 3) pa_nil))))))))), ?_⟩
    refine ⟨fun σ' H' => ∃ b, d = .int b ∧ (∀ l ∈ ls, 1 ≤ l.2 + b) ∧ σ' = [some (.ref p), some (.int b), none, none, none, none, none, none, none] ∧ Same H H', ?_, ?_⟩
    · refine ⟨_, rfl, h, v, d, rfl, r, _, rfl, ?_⟩
      cases g : isInt d with
      | false => exact iteT (iteT (kb g H (Same.refl _)))
      | true =>
      obtain ⟨b, rfl⟩ : ∃ b, d = .int b := by cases d <;> first | exact ⟨_, rfl⟩ | cases g
      cases r
      obtain ⟨kg1, kg2⟩ := kg b rfl
      refine iteF ⟨_, rfl, p, T.Day.C, dx, _, _, rfl, hp, T.Day.cl, no _ (by simp), fl, a2, rfl, ⟨_, SqT.of e2⟩, fun D hD => ?_⟩
      refine lc_tup (K := K) (a := a2) (xs := xs2) (fun i H' => Same H (fun b => if b = D then none else H' b) ∧ H' D = some (.lst (((ls.take i).map fun l => decide (l.2 + b < 1)).map V.bl)))
        ⟨mask_upd hD (Same.refl _), upd_same⟩ (fun i H' _ ⟨s, _⟩ => SqT.of (mask hD s _ _ e2)) ?_ ?_
      · rintro i x H' hx ⟨s, hd⟩
        have sm := mask hD s
        have hi : i < ls.length := by rw [← lx2]; exact (List.getElem?_eq_some_iff.mp hx).1
        obtain ⟨l, el⟩ : ∃ l, ls[i]? = some l := ⟨_, List.getElem?_eq_getElem hi⟩
        obtain ⟨x', ex', rx⟩ := at_ i l el
        rw [hx] at ex'
        cases ex'
        obtain ⟨ql, al, rfl, eql, eal⟩ := lt_inv rx
        refine ⟨ql, _, rfl, SqT.of (sm _ _ eql), rfl, _, _, rfl, _, _, rfl, rfl, rfl, tyes ⟨_, rfl, _, rfl, _, _, rfl, rfl, _, _, rfl, rfl, _, hd, ?_, mask_upd hD sm, ?_⟩⟩
        · rw [List.length_map, List.length_map, List.length_take]; exact line_lt (by omega)
        · rw [upd_same, take_more el, List.map_append, List.map_append]; rfl
      · rintro H' ⟨s, hd⟩
        rw [lx2, List.take_length] at hd
        have sm := mask hD s
        refine ⟨_, _, rfl, SqL.of hd, _, rfl, ?_⟩
        have em : (ls.map fun l => decide (l.2 + b < 1)).any id = ls.any fun l => decide (l.2 + b < 1) := by rw [List.any_map]; rfl
        rw [em]
        cases g2 : ls.any fun l => decide (l.2 + b < 1) with
        | true =>
          rw [List.any_eq_true] at g2
          obtain ⟨l, hl, hz⟩ := g2
          exact iteT (kg1 ⟨l, hl, of_decide_eq_true hz⟩ H' sm)
        | false =>
          rw [List.any_eq_false] at g2
          refine iteF ⟨b, rfl, fun l hl => ?_, rfl, sm⟩
          have : ¬ l.2 + b < 1 := fun z => g2 l hl (decide_eq_true z)
          omega
    rintro σ' H1 ⟨b, rfl, hb, rfl, s1⟩
    obtain ⟨_, kg2⟩ := kg b rfl
    refine ⟨_, rfl, p, T.Day.C, dx, _, _, rfl, s1 _ _ hp, T.Day.cl, no _ (by simp), fl, a2, rfl, ⟨_, SqT.of (s1 _ _ e2)⟩, fun D hD => ?_⟩
    refine lc_tup (K := K) (a := a2) (xs := xs2) (fun i H' => Same H1 (fun b => if b = D then none else H' b) ∧ ∃ ys, H' D = some (.lst ys) ∧ RpA H' h ys ((shL b (ls.take i)).map ltD))
      ⟨mask_upd hD (Same.refl _), [], upd_same, by rw [List.take_zero]; exact .nil⟩ (fun i H' _ ⟨s, _⟩ => SqT.of (mask hD s _ _ (s1 _ _ e2))) ?_ ?_
    · rintro i x H' hx ⟨s, ys, hd, ra⟩
      have sm := s1.trans (mask hD s)
      have hi : i < ls.length := by rw [← lx2]; exact (List.getElem?_eq_some_iff.mp hx).1
      obtain ⟨l, el⟩ : ∃ l, ls[i]? = some l := ⟨_, List.getElem?_eq_getElem hi⟩
      obtain ⟨x', ex', rx⟩ := at_ i l el
      rw [hx] at ex'
      cases ex'
      obtain ⟨ql, al, rfl, eql, eal⟩ := lt_inv rx
      have la : ys.length ≤ 1000 := by
        have := ra.len
        rw [List.length_map] at this
        unfold shL at this
        rw [List.length_map, List.length_take] at this
        omega
      refine ⟨ql, _, rfl, SqT.of (sm _ _ eql), rfl, _, _, rfl, _, _, rfl, rfl, rfl, tyes ⟨_, rfl, _, rfl, _, rfl, _, _, rfl, rfl, by show 2 ≤ sizeLine; decide, fun t ht => ?_⟩⟩
      have st : Same H' (upd H' t (.tup [.ref al, .int (l.2 + b)])) := same_upd ht
      have hdt := st _ _ hd
      refine ⟨ys, hdt, line_lt (by omega), mask_upd hD ((mask hD s).trans st), ys ++ [.ref t], upd_same, ?_⟩
      have rn : Rp (upd H' t (.tup [.ref al, .int (l.2 + b)])) h (.ref t) (ltD (l.1, l.2 + b)) := .tup upd_same (by simp) (.cons (nD_mk (st _ _ (sm _ _ eal)) (by
        obtain ⟨_, _, _, er, z, rb⟩ := tup_inv rx
        obtain ⟨_, _, _, _⟩ := nD_inv (show Rp H h (.ref al) (nD l.1) from by
          cases rb with
          | cons r1 rb =>
            rw [eql] at *
            obtain ⟨aa, e7, e8, z8⟩ := nD_inv r1
            exact nD_mk eal z8)
        assumption)) (.cons (.int _) .nil))
      have e9 : shL b (ls.take (i + 1)) = shL b (ls.take i) ++ [(l.1, l.2 + b)] := by
        unfold shL
        rw [take_more el, List.map_append]; rfl
      rw [e9, List.map_append]
      refine ((ra.nl (NL.of st) (noL_lts _)).app (.cons rn .nil)).nl (NL.upd hdt) ?_
      have := noL_lts (shL b (ls.take i) ++ [(l.1, l.2 + b)])
      rwa [List.map_append] at this
    rintro H2 ⟨s2, ys, hd2, ra2⟩
    rw [lx2, List.take_length] at ra2
    have s02 := s1.trans (mask hD s2)
    have ly := ra2.len
    rw [List.length_map] at ly
    unfold shL at ly
    rw [List.length_map] at ly
    refine ⟨_, _, rfl, .inl ⟨SqL.of hd2, fun q hq => ?_⟩⟩
    have s3 : Same H2 (upd H2 q (.tup ys)) := same_upd hq
    have r2' : Rp (upd H2 q (.tup ys)) h (.ref q) (ltsD (shL b ls)) := .tup upd_same (by omega) (ra2.same s3)
    generalize upd H2 q (.tup ys) = H3 at s3 r2' ⊢
    have s03 := s02.trans s3
    refine ⟨_, rfl, p, T.Day.C, dx, _, _, rfl, s03 _ _ hp, T.Day.cl, no _ (by simp), fh, a3, rfl, ⟨_, SqT.of (s03 _ _ e3)⟩, fun D2 hD2 => ?_⟩
    refine lc_tup (K := K) (a := a3) (xs := xs3) (fun i H' => Same H3 (fun b => if b = D2 then none else H' b) ∧ ∃ ys, H' D2 = some (.lst ys) ∧ RpA H' h ys ((shR b (rows.take i)).map rowD))
      ⟨mask_upd hD2 (Same.refl _), [], upd_same, by rw [List.take_zero]; exact .nil⟩ (fun i H' _ ⟨s, _⟩ => SqT.of (mask hD2 s _ _ (s03 _ _ e3))) ?_ ?_
    · rintro i x H' hx ⟨s, ys, hd, ra⟩
      have sm := s03.trans (mask hD2 s)
      have hi : i < rows.length := by rw [← lx3]; exact (List.getElem?_eq_some_iff.mp hx).1
      obtain ⟨r, er⟩ : ∃ r, rows[i]? = some r := ⟨_, List.getElem?_eq_getElem hi⟩
      obtain ⟨b2, eb2, ey⟩ := rat i r er
      rw [hx] at eb2
      cases eb2
      have hr1000 := rr1000 r (List.mem_of_getElem? er)
      have la : ys.length ≤ 1000 := by
        have := ra.len
        rw [List.length_map] at this
        unfold shR at this
        rw [List.length_map, List.length_take] at this
        omega
      refine ⟨rfl, tyes ⟨_, rfl, b2, rfl, ⟨_, SqT.of (sm _ _ ey)⟩, fun D3 hD3 => ?_⟩⟩
      refine lc_tup (K := K) (a := b2) (xs := r.map V.int) (fun j H'' => Same H' (fun b => if b = D3 then none else H'' b) ∧ H'' D3 = some (.lst (((r.take j).map fun x => x + b).map V.int)))
        ⟨mask_upd hD3 (Same.refl _), upd_same⟩ (fun j H'' _ ⟨s, _⟩ => SqT.of (mask hD3 s _ _ (sm _ _ ey))) ?_ ?_
      · rintro j x H'' hx ⟨s', hd'⟩
        have hj : j < r.length := by
          have := (List.getElem?_eq_some_iff.mp hx).1
          rwa [List.length_map] at this
        have ex : x = .int r[j] := by
          rw [List.getElem?_map, List.getElem?_eq_getElem hj] at hx
          exact (Option.some.inj hx).symm
        subst ex
        refine ⟨rfl, tyes ⟨_, rfl, _, rfl, _, _, rfl, rfl, _, hd', ?_, mask_upd hD3 (mask hD3 s'), ?_⟩⟩
        · rw [List.length_map, List.length_map, List.length_take]; exact line_lt (by omega)
        · rw [upd_same, take_more (List.getElem?_eq_getElem hj), List.map_append, List.map_append]; rfl
      · rintro H'' ⟨s', hd'⟩
        rw [List.length_map, List.take_length] at hd'
        have sm' := mask hD3 s'
        refine ⟨D3, _, rfl, .inl ⟨SqL.of hd', fun t ht => ?_⟩⟩
        have st : Same H'' (upd H'' t (.tup ((r.map fun x => x + b).map V.int))) := same_upd ht
        have hdt := st _ _ (sm' _ _ hd)
        refine ⟨ys, hdt, line_lt (by omega), mask_upd hD2 (((mask hD2 s).trans sm').trans st), ys ++ [.ref t], upd_same, ?_⟩
        have rn : Rp (upd H'' t (.tup ((r.map fun x => x + b).map V.int))) h (.ref t) (rowD (r.map fun x => x + b)) := .tup upd_same (by rw [List.length_map, List.length_map]; omega) (RpA.ints _)
        have e9 : shR b (rows.take (i + 1)) = shR b (rows.take i) ++ [r.map fun x => x + b] := by
          unfold shR
          rw [take_more er, List.map_append]; rfl
        rw [e9, List.map_append]
        refine ((ra.nl (NL.of (sm'.trans st)) (noL_rows _)).app (.cons rn .nil)).nl (NL.upd hdt) ?_
        have := noL_rows (shR b (rows.take i) ++ [r.map fun x => x + b])
        rwa [List.map_append] at this
    rintro H4 ⟨s4, zs, hd4, ra4⟩
    rw [lx3, List.take_length] at ra4
    have s34 := mask hD2 s4
    have lz := ra4.len
    rw [List.length_map] at lz
    unfold shR at lz
    rw [List.length_map] at lz
    refine ⟨_, _, rfl, .inl ⟨SqL.of hd4, fun u hu => ?_⟩⟩
    have s5 : Same H4 (upd H4 u (.tup zs)) := same_upd hu
    have r3' : Rp (upd H4 u (.tup zs)) h (.ref u) (rowsD (shR b rows)) := .tup upd_same (by omega) (ra4.same s5)
    generalize upd H4 u (.tup zs) = H5 at s5 r3' ⊢
    have s05 := (s03.trans s34).trans s5
    exact ⟨_, rfl, p, T.Day.C, dx, _, _, rfl, s05 _ _ hp, T.Day.cl, no _ (by simp), fw, _, rfl, _, rfl, h, pw, .ref q, .ref u, n, rds, rm, tm, shL b ls, shR b rows, rfl, W.same s05, (r2'.same s34).same s5, r3', fun p' H6 s6 O6 => kg2 hb p' H6 (s05.trans s6) O6⟩
end
end Hc


set_option Elab.async false
set_option linter.all false
set_option maxRecDepth 100000
set_option maxHeartbeats 1000000
set_option autoImplicit false
namespace Pl
open PySem L2 PyProof.Rows
/-- Python's < of rows of ints -/
def lexI : List Int → List Int → Bool
  | [], [] => false
  | [], _ :: _ => true
  | _ :: _, [] => false
  | a :: as, b :: bs => if a = b then lexI as bs else decide (a < b)
theorem lexI_cons (a b : Int) (as bs : List Int) : lexI (a :: as) (b :: bs) = if a = b then lexI as bs else decide (a < b) := rfl
theorem lexI_asym : ∀ x y : List Int, lexI x y = true → lexI y x = false
  | [], [], h => by cases h
  | [], _ :: _, _ => rfl
  | _ :: _, [], h => by cases h
  | a :: as, b :: bs, h => by
    rw [lexI_cons] at h ⊢
    by_cases e : a = b
    · rw [if_pos e] at h
      rw [if_pos e.symm]
      exact lexI_asym as bs h
    · rw [if_neg e] at h
      rw [if_neg (Ne.symm e)]
      have := of_decide_eq_true h
      exact decide_eq_false (by omega)
theorem lexI_tr : ∀ x y z : List Int, lexI y x = false → lexI z y = false → lexI z x = false
  | [], _, [], _, _ => rfl
  | [], [], _ :: _, _, _ => rfl
  | [], _ :: _, _ :: _, _, _ => rfl
  | _ :: _, [], _, h, _ => by cases h
  | _ :: _, _ :: _, [], _, h => by cases h
  | a :: as, b :: bs, c :: cs, h1, h2 => by
    rw [lexI_cons] at h1 h2 ⊢
    by_cases e1 : b = a
    · rw [if_pos e1] at h1
      by_cases e2 : c = b
      · rw [if_pos e2] at h2
        rw [if_pos (e2.trans e1)]
        exact lexI_tr as bs cs h1 h2
      · rw [if_neg e2] at h2
        have := of_decide_eq_false h2
        rw [if_neg (by omega)]
        exact decide_eq_false (by omega)
    · rw [if_neg e1] at h1
      have q1 := of_decide_eq_false h1
      by_cases e2 : c = b
      · rw [if_neg (by omega)]
        exact decide_eq_false (by omega)
      · rw [if_neg e2] at h2
        have q2 := of_decide_eq_false h2
        rw [if_neg (by omega)]
        exact decide_eq_false (by omega)
theorem swo {α : Type} (k : α → List Int) : SrtO.Swo fun v u => lexI (k v) (k u) := ⟨fun x y => lexI_asym _ _, fun x y z => lexI_tr _ _ _⟩
/-- .. where one of them ends the answer is fin -/
def lexF (fin : Bool) : List Int → List Int → Bool
  | a :: as, b :: bs => if a = b then lexF fin as bs else decide (a < b)
  | _, _ => fin
theorem lexF_eq : ∀ (x y : List Int), lexF (decide (x.length < y.length)) x y = lexI x y
  | [], [] => rfl
  | [], _ :: _ => by show decide (0 < _ + 1) = true; exact decide_eq_true (Nat.succ_pos _)
  | _ :: _, [] => by show decide (_ + 1 < 0) = false; exact decide_eq_false (Nat.not_lt_zero _)
  | a :: as, b :: bs => by
    have ih := lexF_eq as bs
    rw [lexI_cons, ← ih]
    show (if a = b then lexF (decide (as.length + 1 < bs.length + 1)) as bs else decide (a < b)) = _
    have : decide (as.length + 1 < bs.length + 1) = decide (as.length < bs.length) := by
      by_cases h : as.length < bs.length
      · rw [decide_eq_true h, decide_eq_true (by omega)]
      · rw [decide_eq_false h, decide_eq_false (by omega)]
    rw [this]
section
variable {prog : Program} {w : World} {A : Around} {E : Value → Shared → Prop} {s : Shared}
/-- at v a tuple of ints, one at least -/
def IsPl (h : Heap) (v : Value) (p : List Int) : Prop := ∃ a o us n n0 ns, v = .ref a ∧ h.get? a = some o ∧ o.cls = .type "tuple" ∧ o.data = .seq (List.toArray us) n ∧ p = n0 :: ns ∧ Vals (p.map V.int) us
theorem IsPl.keeps {h h' : Heap} {v : Value} {p : List Int} (x : IsPl h v p) (k : ∀ b o, h.get? b = some o → o.cls = .type "tuple" → h'.get? b = some o) : IsPl h' v p := by
  obtain ⟨a, o, us, n, n0, ns, e, ho, hc, hd⟩ := x
  exact ⟨a, o, us, n, n0, ns, e, k _ _ ho hc, hc, hd⟩
theorem lex_go {b fin : Bool} {Q : Bool → Shared → Prop} : ∀ (ns ms : List Int) (us vs : List Value) (i : Nat), Vals (ns.map V.int) us → Vals (ms.map V.int) vs → Q (lexF fin ns ms) s → PySem.W.KatLex prog w A b fin Q (us.zip vs) i s
  | [], _, _, _, i, .nil, _, h => PySem.W.kat_nil (i := i) h
  | _ :: _, [], _, _, i, .cons _ _, .nil, h => PySem.W.kat_nil (i := i) h
  | n :: ns, m :: ms, _, _, i, .cons r1 q1, .cons r2 q2, h => by
    obtain ⟨t1, rfl⟩ := r1
    obtain ⟨t2, rfl⟩ := r2
    have h : Q (if n = m then lexF fin ns ms else decide (n < m)) s := h
    refine PySem.W.kat_cons (SeqAt.EqAt.int_int n t1 m t2 prog w _ _ ?_)
    refine PySem.W.kat_go (fun e1 => ?_) (fun e1 => ?_)
    · have ex : n = m := by simpa using e1
      rw [if_pos ex] at h
      exact PySem.W.kat_yes (lex_go ns ms _ _ (i + 1) q1 q2 h)
    · have ex : ¬ n = m := by simpa using e1
      rw [if_neg ex] at h
      exact PySem.W.kat_no (TS.oneLt_ints _ h)
theorem pl_cmp {vs : List Value} {k : Value → List Int} (hp : ∀ v ∈ vs, IsPl s.heap v (k v)) : SrtO.Cmp prog w A s (tuples' true) (fun p => p.1 ∈ vs) (SrtO.lt2 fun v u => lexI (k v) (k u)) := by
  intro p q hm hm'
  have h1 := hp _ hm
  have h2 := hp _ hm'
  show wpAny (model prog w) A (keyLt' (tuples' true) p.1 q.1) (fun r s' => s' = s ∧ r = lexI (k p.1) (k q.1)) (fun _ _ => False) s
  obtain ⟨a, o, us, n, n0, ns, e, ho, hc, hd, ek, r1⟩ := h1
  obtain ⟨a', o', us', n', m0, ms, e', ho', hc', hd', ek', r2⟩ := h2
  rw [e, e']
  refine PySem.W.kat_lt ho hd ho' hd' ?_
  have l1 := r1.length
  have l2 := r2.length
  rw [List.length_map] at l1 l2
  have fin : decide (us.toArray.size < us'.toArray.size) = decide ((k p.1).length < (k q.1).length) := by
    simp only [List.size_toArray]
    rw [← l1, ← l2]
  rw [fin]
  exact lex_go (k p.1) (k q.1) us us' 0 r1 r2 ⟨rfl, by rw [← e, ← e']; exact lexF_eq _ _⟩
theorem firsts_of {h : Heap} : ∀ {vs : List Value}, (∀ v ∈ vs, ∃ p, IsPl h v p) → ∃ fs : List Value, PySem.W.KatTups h vs fs ∧ fs.length = vs.length ∧ ∀ f ∈ fs, ∃ x t, f = Value.int x t
  | [], _ => ⟨[], PySem.W.KatTups.nil, rfl, fun _ hm => by simp at hm⟩
  | v :: vs, hp => by
    obtain ⟨fs, h1, h2, h3⟩ := firsts_of (vs := vs) fun v' hm => hp v' (List.mem_cons_of_mem _ hm)
    obtain ⟨p, a, o, us, n, n0, ns, e, ho, hc, hd, ep, r⟩ := hp v (List.mem_cons_self ..)
    subst e ep
    cases r with
    | cons r0 r =>
    obtain ⟨t, rfl⟩ := r0
    refine ⟨.int n0 t :: fs, PySem.W.KatTups.cons ho hc hd rfl h1, by rw [List.length_cons, List.length_cons, h2], fun f hm => ?_⟩
    rcases List.mem_cons.mp hm with rfl | hm
    · exact ⟨_, t, rfl⟩
    · exact h3 f hm
theorem sortable {a : Addr} {vs : List Value} {k : Value → List Int} (h0 : 0 < vs.length) (hp : ∀ v ∈ vs, IsPl s.heap v (k v)) (ha : ∀ o, s.heap.get? a = some o → o.cls ≠ .type "tuple") : SrtO.SortableO prog w A s a vs fun v u => lexI (k v) (k u) := by
  intro h' keep
  have hp' : ∀ v ∈ vs, IsPl h' v (k v) := fun v hm => (hp v hm).keeps fun b o e c => keep b o (fun z => by subst z; exact ha o e c) e
  obtain ⟨fs, h1, h2, h3⟩ := firsts_of fun v hm => ⟨_, hp' v hm⟩
  refine ⟨tuples' true, fun Q E hq => ?_, pl_cmp hp'⟩
  refine PySem.W.kat_kind (T := .type "int") h1 (by omega) (fun f hm => ?_) (by rfl) ?_
  · obtain ⟨x, t, rfl⟩ := h3 f hm
    exact PySem.W.Looks.now
  · have e : (Value.type "int" != Value.type "tuple") = true := by first | decide +kernel | rfl | decide
    rw [e]
    exact hq
theorem sorted_pl {l : Addr} {vs : List Value} {k : Value → List Int} {Q : Value → Shared → Prop} (hl : s.heap.IsList l vs.toArray) (hz : vs.length ≤ sizeLine) (hp : ∀ v ∈ vs, IsPl s.heap v (k v))
    (h : ∀ (h' : Heap) (d : Addr) (out : List Value), SrtO.Srtd (fun v u => lexI (k v) (k u)) out → SrtO.Stb (fun v u => lexI (k v) (k u)) out vs → (∀ b o, s.heap.get? b = some o → h'.get? b = some o) → s.heap.objs.size ≤ d → (∃ n, h'.get? d = some (seqObj "list" out.toArray n)) → Q (.ref d) { s with heap := h' }) :
    wpAny (model prog w) A (call (.builtin "sorted") [.ref l]) Q E s := by
  refine SrtO.sorted_ord (swo k) hl hz (fun h2 h₁ a ha kk => ?_) fun out hs hb => ?_
  · refine sortable (s := { s with heap := h₁ }) (by omega) (fun v hm => (hp v hm).keeps fun b o e _ => (kk b o e).2) fun o e => ?_
    have e' : some o = some (seqObj "list" vs.toArray 0) := e.symm.trans ha
    cases e'
    intro c
    exact absurd (Value.type.inj c) (by decide)
  · exact h _ _ out hs hb (fun b o e => sortedAll_old e) (Nat.le_succ _) (sortedAll_at s.heap vs out.toArray)
end
end Pl
namespace L2
open PySem PySem.Spec PyProof.Rows
/-- at x a tuple of ints, one at least, in the heap -/
def RwV (H : Hp) (x : V) (p : List Int) : Prop := ∃ t n0 ns, x = V.ref t ∧ H t = some (.tup (p.map V.int)) ∧ p = n0 :: ns
/-- sorted(xs), xs a list of such tuples -/
def rSortedR (K : PySem.W.Frag) : List V → Hp → VK → Prop := fun vs H Q => ∃ (a : Addr) (xs : List V) (k : V → List Int), vs = [V.ref a] ∧ SqL K H a xs ∧ (∀ x ∈ xs, RwV H x (k x)) ∧
  ∀ ys p, SrtO.Srtd (fun x y => Pl.lexI (k x) (k y)) ys → SrtO.Stb (fun x y => Pl.lexI (k x) (k y)) ys xs → H p = none → Q (.ref p) (upd H p (.lst ys))
section
variable {X : Cx}
theorem cr_sortedR : CallR X (.builtin "sorted") (rSortedR X.K) := by
  intro pins s σ H vs us Q I r h
  obtain ⟨a, xs, k, rfl, hs, hx, q⟩ := h
  obtain ⟨its, rv, hl, hz⟩ := I.list hs
  obtain ⟨u, rfl, ru⟩ := vals1 r
  obtain rfl : u = Value.ref a := ru
  obtain ⟨e1, e2⟩ := refs_back rv fun x m => by
    obtain ⟨t, _, _, e, _⟩ := hx x m
    exact ⟨t, e⟩
  refine Pl.sorted_pl (k := fun u => k (backV u)) hl.isList (by rw [← rv.length]; exact hz) (fun v hv => ?_) fun h' d out h1 h2 kp hd hn => ?_
  · obtain ⟨t, rfl⟩ := e2 v hv
    have hm : V.ref t ∈ xs := by rw [e1]; exact List.mem_map.mpr ⟨_, hv, rfl⟩
    obtain ⟨t', n0, ns, e, ht, ek⟩ := hx _ hm
    cases e
    obtain ⟨_, its2, r2, o, ho, hc, n, hd⟩ := I.hok _ _ ht
    exact ⟨t, o, _, n, n0, ns, rfl, ho, hc, hd, ek, r2⟩
  · have h3 : ∀ u ∈ out, ∃ a, u = Value.ref a := fun u hu => e2 u (h2.perm.mem_iff.mp hu)
    obtain ⟨n, hn⟩ := hn
    have hb : SrtO.Stb (fun x y => Pl.lexI (k x) (k y)) (out.map backV) xs := by
      rw [e1]
      exact SrtO.Stb.map (Pl.swo k) backV h2
    refine ⟨.ref d, upd H d (.lst (out.map backV)), I.laid (t' := s.toks) kp hd ⟨?_, out, n, vals_back h3, hn⟩, rfl, q _ d (SrtO.srtd_map h1) hb (I.hok.fresh hd)⟩
    rw [hb.len]
    exact hz
end
end L2


set_option Elab.async false
set_option linter.all false
set_option maxRecDepth 100000
set_option maxHeartbeats 2000000
set_option autoImplicit false
namespace PySem
open Sem (wp)
/-- a zip, whatever it gave out last -/
def IsZ (h : Heap) (z TI TO : Addr) (f0 : Value) (f : Bool) : Prop :=
  h.get? z = some { cls := .type "zip", dict := none, data := .fields #[f0, .bool f, .bool false, .ref TI, .ref TO], slots := #[] }
def OutV (v : Value) : Prop := v = .none ∨ ∃ T : Addr, v = rawInt T
section
variable {prog : Program} {w : World} {A : Around} {E : Value → Shared → Prop} {s : Shared}
theorem z_free {z TI TO : Addr} {f0 : Value} {f : Bool} {Q : Bool → Shared → Prop} (hz : IsZ s.heap z TI TO f0 f) (ho : OutV f0) (q1 : Q true s)
    (q2 : ∀ h', IsZ h' z TI TO f0 true → Heap.SameBut z s.heap h' → Q false { s with heap := h' }) : wpAny (model prog w) A (Builtin.SmallTypes.ownedTupleIsFree (.ref z)) Q E s := by
  unfold Builtin.SmallTypes.ownedTupleIsFree
  rcases ho with rfl | ⟨T, rfl⟩
  · exact wpAny_bind (wpAny_field hz rfl (x := .none) rfl (wpAny_pure q1))
  · refine wpAny_bind (wpAny_field hz rfl (x := rawInt T) rfl ?_)
    show wpAny _ _ (loadIfAlive ((T : Int).toNat) >>= _) _ _ _
    have go : ∀ {Q' : Option Obj → Shared → Prop}, Q' (s.heap.get? T) s → wpAny (model prog w) A (loadIfAlive T) Q' E s := fun h _ _ _ => h
    rw [Int.toNat_natCast]
    refine wpAny_bind (go ?_)
    cases s.heap.get? T with
    | none =>
      simp only [Option.isNone_none, if_true]
      exact wpAny_pure q1
    | some o =>
      simp only [Option.isNone_some, Bool.false_eq_true, if_false]
      refine wpAny_bind (wpAny_field hz rfl (x := .bool f) rfl ?_)
      cases f with
      | true =>
        rw [if_neg (by intro z; cases z)]
        exact wpAny_pure (q2 s.heap hz (Heap.SameBut.refl _ _))
      | false =>
        rw [if_pos (by rfl)]
        exact wpAny_bind (wpAny_setField_rec hz (by simp) fun h₁ e₁ k₁ => wpAny_pure (q2 h₁ e₁ k₁))
/-- the next pair of a zip of two tuples -/
theorem z_item {z TI TO i1 i2 l1 l2 : Addr} {f0 : Value} {f : Bool} {k1 k2 : Nat} {xs ys : Array Value} {x y a b : Value} {Q : Value → Shared → Prop} (D : ZipApart z TI TO i1 i2 l1 l2)
    (hz : IsZ s.heap z TI TO f0 f) (ho : OutV f0) (hI : IsPair s.heap TI (.ref i1) (.ref i2)) (hO : IsPair s.heap TO a b)
    (h1 : s.heap.IsTupleIter i1 l1 k1) (h2 : s.heap.IsTupleIter i2 l2 k2) (hl1 : s.heap.IsTuple l1 xs) (hl2 : s.heap.IsTuple l2 ys) (hx : xs[k1]? = some x) (hy : ys[k2]? = some y)
    (hQ : ∀ h' g0 g, IsZ h' z TI TO g0 g → OutV g0 → (∃ u v, IsPair h' TO u v) → h'.IsTupleIter i1 l1 (k1 + 1) → h'.IsTupleIter i2 l2 (k2 + 1) → IsPair h' s.heap.objs.size x y → h'.objs.size = s.heap.objs.size + 1 →
      (∀ c o, c ≠ z → c ≠ TO → c ≠ i1 → c ≠ i2 → s.heap.get? c = some o → h'.get? c = some o) → Q (.ref s.heap.objs.size) { s with heap := h' }) :
    wpAny (model prog w) A (Builtin.«zip.__next__» ⟨[.ref z], []⟩) (fun fin s' => ∃ v, fin = .done (.ret v) ∧ Q v s') E s := by
  show wpAny _ _ (field (.ref z) 2 >>= _) _ _ _
  refine wpAny_bind (wpAny_field hz rfl (x := .bool false) rfl ?_)
  show wpAny _ _ (field (.ref z) 3 >>= _) _ _ _
  refine wpAny_bind (wpAny_field hz rfl (x := .ref TI) rfl (wpAny_bind (m := seqItems? (.ref TI)) (wpAny_seqItems hI rfl ?_)))
  show wpAny _ _ (Builtin.SmallTypes.ownedTupleIsFree (.ref z) >>= _) _ _ _
  refine wpAny_bind (z_free hz ho ?_ fun h₁ z₁ s₁ => ?_)
  · simp only [if_true]
    refine wpAny_bind (wpAny_rule (wpAny_bind (wpAny_field hz rfl (x := .ref TO) rfl (wpAny_bind (wpAny_setField_rec hz (by simp) fun h₁ z₁ s₁ => ?_)))))
    replace z₁ : IsZ h₁ z TI TO .ellipsis f := z₁
    refine wpAny_bind ?_
    simp only [List.zipIdx_cons, List.zipIdx_nil, List.forIn_cons, List.forIn_nil]
    refine wpAny_bind (wpAny_bind (wpAny_onRaise ?_))
    show wpAny _ _ (Builtin.SmallTypes.nextOf (.ref i1) >>= _) _ _ _
    refine wpAny_bind (RZ.nextOf_tuple_item (h1.extBut s₁.extBut D.i1z) (hl1.extBut s₁.extBut D.l1z) hx fun h₂ n₂ s₂ => wpAny_pure ?_)
    have O₂ : IsPair h₂ TO a b := s₂.extBut _ _ D.TOi1 (s₁.extBut _ _ D.TOz hO)
    refine wpAny_bind (wpAny_seqItems O₂ rfl (wpAny_bind (wpAny_updateSeq_pair O₂ fun h₃ O₃ s₃ => ?_)))
    replace O₃ : IsPair h₃ TO x b := O₃
    refine wpAny_bind (wpAny_letGo (wpAny_pure (wpAny_bind (wpAny_bind (wpAny_onRaise ?_)))))
    show wpAny _ _ (Builtin.SmallTypes.nextOf (.ref i2) >>= _) _ _ _
    refine wpAny_bind (RZ.nextOf_tuple_item (((h2.extBut s₁.extBut D.i2z).extBut s₂.extBut D.i12.symm).extBut s₃.extBut D.TOi2.symm) (((hl2.extBut s₁.extBut D.l2z).extBut s₂.extBut D.l2i1).extBut s₃.extBut D.l2TO) hy fun h₄ n₄ s₄ => wpAny_pure ?_)
    have O₄ : IsPair h₄ TO x b := s₄.extBut _ _ D.TOi2 O₃
    refine wpAny_bind (wpAny_seqItems O₄ rfl (wpAny_bind (wpAny_updateSeq_pair O₄ fun h₅ O₅ s₅ => ?_)))
    replace O₅ : IsPair h₅ TO x y := O₅
    refine wpAny_bind (wpAny_letGo (wpAny_pure (wpAny_pure (wpAny_bind (wpAny_seqItems O₅ rfl (wpAny_bind (wpAny_newTuple ?_)))))))
    have sz : h₅.objs.size = s.heap.objs.size := by rw [s₅.1, s₄.1, s₃.1, s₂.1, s₁.1]
    have z₅ : IsZ h₅ z TI TO .ellipsis f := s₅.extBut _ _ D.TOz.symm (s₄.extBut _ _ D.i2z.symm (s₃.extBut _ _ D.TOz.symm (s₂.extBut _ _ D.i1z.symm z₁)))
    have k₅ : ∀ c o, c ≠ z → c ≠ TO → c ≠ i1 → c ≠ i2 → s.heap.get? c = some o → h₅.get? c = some o := fun c o c1 c2 c3 c4 e => s₅.extBut _ _ c2 (s₄.extBut _ _ c4 (s₃.extBut _ _ c2 (s₂.extBut _ _ c3 (s₁.extBut _ _ c1 e))))
    have n1₅ : h₅.IsTupleIter i1 l1 (k1 + 1) := ((n₂.extBut s₃.extBut D.TOi1.symm).extBut s₄.extBut D.i12).extBut s₅.extBut D.TOi1.symm
    have n2₅ : h₅.IsTupleIter i2 l2 (k2 + 1) := n₄.extBut s₅.extBut D.TOi2.symm
    have zlt : z < h₅.objs.size := Heap.lt_size z₅
    show wpAny _ _ (Builtin.SmallTypes.ownedTupleHandOut (.ref z) (.ref h₅.objs.size) >>= _) _ _ _
    refine wpAny_bind ?_
    unfold Builtin.SmallTypes.ownedTupleHandOut
    have z₆ : IsZ (h₅.push { cls := .type "tuple", data := .seq #[x, y] }) z TI TO .ellipsis f := Heap.get?_push_of_some _ z₅
    refine wpAny_bind (wpAny_setField_rec z₆ (by simp) fun h₇ z₇ s₇ => ?_)
    replace z₇ : IsZ h₇ z TI TO (rawInt h₅.objs.size) f := z₇
    refine wpAny_setField_rec z₇ (by simp) fun h₈ z₈ s₈ => ?_
    replace z₈ : IsZ h₈ z TI TO (rawInt h₅.objs.size) false := z₈
    have up : ∀ c o, c ≠ z → h₅.get? c = some o → h₈.get? c = some o := fun c o c1 e => s₈.extBut _ _ c1 (s₇.extBut _ _ c1 (Heap.get?_push_of_some _ e))
    have T₈ : IsPair h₈ h₅.objs.size x y := s₈.extBut _ _ (Nat.ne_of_gt zlt) (s₇.extBut _ _ (Nat.ne_of_gt zlt) (Heap.get?_push_size _ rfl))
    have sz8 : h₈.objs.size = h₅.objs.size + 1 := by rw [s₈.1, s₇.1, Heap.size_push]
    rw [sz] at T₈ sz8
    refine wpAny_pure ⟨_, rfl, ?_⟩
    show Q (.ref h₅.objs.size) _
    rw [sz]
    exact hQ h₈ _ _ z₈ (.inr ⟨_, rfl⟩) ⟨_, _, up _ _ D.TOz O₅⟩ (n1₅.at fun o e => up _ o D.i1z e) (n2₅.at fun o e => up _ o D.i2z e) T₈ sz8 fun c o c1 c2 c3 c4 e => up c o c1 (k₅ c o c1 c2 c3 c4 e)
  · simp only [Bool.false_eq_true, if_false]
    refine wpAny_bind ?_
    rw [← Array.forIn_toList]
    simp only [List.forIn_cons, List.forIn_nil]
    refine wpAny_bind (wpAny_bind (wpAny_holding ?_))
    show wpAny _ _ (Builtin.SmallTypes.nextOf (.ref i1) >>= _) _ _ _
    refine wpAny_bind (RZ.nextOf_tuple_item (h1.extBut s₁.extBut D.i1z) (hl1.extBut s₁.extBut D.l1z) hx fun h₂ n₂ s₂ => wpAny_pure (wpAny_pure (wpAny_bind (wpAny_bind (wpAny_holding ?_)))))
    show wpAny _ _ (Builtin.SmallTypes.nextOf (.ref i2) >>= _) _ _ _
    refine wpAny_bind (RZ.nextOf_tuple_item ((h2.extBut s₁.extBut D.i2z).extBut s₂.extBut D.i12.symm) ((hl2.extBut s₁.extBut D.l2z).extBut s₂.extBut D.l2i1) hy fun h₃ n₃ s₃ => wpAny_pure (wpAny_pure (wpAny_pure ?_)))
    show wpAny _ _ (newTuple [x, y] >>= _) _ _ _
    refine wpAny_bind (wpAny_newTuple (wpAny_pure ⟨_, rfl, ?_⟩))
    have sz : h₃.objs.size = s.heap.objs.size := by rw [s₃.1, s₂.1, s₁.1]
    have z₃ : IsZ h₃ z TI TO f0 true := s₃.extBut _ _ D.i2z.symm (s₂.extBut _ _ D.i1z.symm z₁)
    have k₃ : ∀ c o, c ≠ z → c ≠ i1 → c ≠ i2 → s.heap.get? c = some o → h₃.get? c = some o := fun c o c1 c2 c3 e => s₃.extBut _ _ c3 (s₂.extBut _ _ c2 (s₁.extBut _ _ c1 e))
    have n1₃ : h₃.IsTupleIter i1 l1 (k1 + 1) := n₂.extBut s₃.extBut D.i12
    show Q (.ref h₃.objs.size) _
    have T₄ : IsPair (h₃.push { cls := .type "tuple", data := .seq #[x, y] }) h₃.objs.size x y := Heap.get?_push_size _ rfl
    have sz4 : (h₃.push { cls := .type "tuple", data := .seq #[x, y] }).objs.size = h₃.objs.size + 1 := Heap.size_push ..
    rw [sz] at T₄ sz4 ⊢
    exact hQ _ _ _ (Heap.get?_push_of_some _ z₃) ho ⟨_, _, Heap.get?_push_of_some _ (k₃ _ _ D.TOz D.TOi1 D.TOi2 hO)⟩ (n1₃.at fun o e => Heap.get?_push_of_some _ e) (n₃.at fun o e => Heap.get?_push_of_some _ e) T₄ sz4 fun c o c1 _ c3 c4 e => Heap.get?_push_of_some _ (k₃ c o c1 c3 c4 e)
theorem z_end {z TI TO i1 i2 l1 l2 : Addr} {f0 : Value} {f : Bool} {k1 k2 : Nat} {xs ys : Array Value} {a b : Value} {Q : Fin → Shared → Prop} (hh : A.handled = none) (D : ZipApart z TI TO i1 i2 l1 l2)
    (hz : IsZ s.heap z TI TO f0 f) (ho : OutV f0) (hI : IsPair s.heap TI (.ref i1) (.ref i2)) (hO : IsPair s.heap TO a b)
    (h1 : s.heap.IsTupleIter i1 l1 k1) (h2 : s.heap.IsTupleIter i2 l2 k2) (hl1 : s.heap.IsTuple l1 xs) (hl2 : s.heap.IsTuple l2 ys) (hend : xs[k1]? = none ∨ ys[k2]? = none)
    (hE : ∀ h' e, (∀ c o, c ≠ z → c ≠ TO → c ≠ i1 → c ≠ i2 → s.heap.get? c = some o → h'.get? c = some o) → (∃ o, h'.get? e = some o ∧ o.cls = .type "StopIteration") → E (.ref e) { s with heap := h' }) :
    wpAny (model prog w) A (Builtin.«zip.__next__» ⟨[.ref z], []⟩) Q E s := by
  show wpAny _ _ (field (.ref z) 2 >>= _) _ _ _
  refine wpAny_bind (wpAny_field hz rfl (x := .bool false) rfl ?_)
  show wpAny _ _ (field (.ref z) 3 >>= _) _ _ _
  refine wpAny_bind (wpAny_field hz rfl (x := .ref TI) rfl (wpAny_bind (m := seqItems? (.ref TI)) (wpAny_seqItems hI rfl ?_)))
  show wpAny _ _ (Builtin.SmallTypes.ownedTupleIsFree (.ref z) >>= _) _ _ _
  refine wpAny_bind (z_free hz ho ?_ fun h₁ z₁ s₁ => ?_)
  · simp only [if_true]
    refine wpAny_bind (wpAny_rule (wpAny_bind (wpAny_field hz rfl (x := .ref TO) rfl (wpAny_bind (wpAny_setField_rec hz (by simp) fun h₁ z₁ s₁ => ?_)))))
    replace z₁ : IsZ h₁ z TI TO .ellipsis f := z₁
    refine wpAny_bind ?_
    simp only [List.zipIdx_cons, List.zipIdx_nil, List.forIn_cons, List.forIn_nil]
    refine wpAny_bind (wpAny_bind (wpAny_onRaise ?_))
    show wpAny _ _ (Builtin.SmallTypes.nextOf (.ref i1) >>= _) _ _ _
    cases hx : xs[k1]? with
    | none =>
      refine wpAny_bind (RZ.nextOf_tuple_end hh (h1.extBut s₁.extBut D.i1z) (hl1.extBut s₁.extBut D.l1z) hx fun h₂ e s₂ he => ?_)
      obtain ⟨oe, hoe, hce⟩ := he
      have z₂ : IsZ h₂ z TI TO .ellipsis f := s₂ _ _ D.i1z.symm z₁
      have hez : e ≠ z := fun q => by
        subst q
        have z₂' : h₂.get? e = some _ := z₂
        rw [z₂'] at hoe; cases hoe; simp at hce
      exact wpAny_setField_rec z₂ (by simp) fun h₃ _ s₃ => hE h₃ e (fun c o c1 _ c3 _ q => s₃.extBut _ _ c1 (s₂ _ _ c3 (s₁.extBut _ _ c1 q))) ⟨oe, s₃.extBut _ _ hez hoe, hce⟩
    | some x =>
      have hy : ys[k2]? = none := by rcases hend with q | q; rw [hx] at q; cases q; exact q
      refine wpAny_bind (RZ.nextOf_tuple_item (h1.extBut s₁.extBut D.i1z) (hl1.extBut s₁.extBut D.l1z) hx fun h₂ n₂ s₂ => wpAny_pure ?_)
      have O₂ : IsPair h₂ TO a b := s₂.extBut _ _ D.TOi1 (s₁.extBut _ _ D.TOz hO)
      refine wpAny_bind (wpAny_seqItems O₂ rfl (wpAny_bind (wpAny_updateSeq_pair O₂ fun h₃ O₃ s₃ => wpAny_bind (wpAny_letGo (wpAny_pure (wpAny_bind (wpAny_bind (wpAny_onRaise ?_))))))))
      show wpAny _ _ (Builtin.SmallTypes.nextOf (.ref i2) >>= _) _ _ _
      refine wpAny_bind (RZ.nextOf_tuple_end hh (((h2.extBut s₁.extBut D.i2z).extBut s₂.extBut D.i12.symm).extBut s₃.extBut D.TOi2.symm) (((hl2.extBut s₁.extBut D.l2z).extBut s₂.extBut D.l2i1).extBut s₃.extBut D.l2TO) hy fun h₄ e s₄ he => ?_)
      obtain ⟨oe, hoe, hce⟩ := he
      have z₄ : IsZ h₄ z TI TO .ellipsis f := s₄ _ _ D.i2z.symm (s₃.extBut _ _ D.TOz.symm (s₂.extBut _ _ D.i1z.symm z₁))
      have hez : e ≠ z := fun q => by
        subst q
        have z₄' : h₄.get? e = some _ := z₄
        rw [z₄'] at hoe; cases hoe; simp at hce
      exact wpAny_setField_rec z₄ (by simp) fun h₅ _ s₅ => hE h₅ e (fun c o c1 c2 c3 c4 q => s₅.extBut _ _ c1 (s₄ _ _ c4 (s₃.extBut _ _ c2 (s₂.extBut _ _ c3 (s₁.extBut _ _ c1 q))))) ⟨oe, s₅.extBut _ _ hez hoe, hce⟩
  · simp only [Bool.false_eq_true, if_false]
    refine wpAny_bind ?_
    rw [← Array.forIn_toList]
    simp only [List.forIn_cons, List.forIn_nil]
    refine wpAny_bind (wpAny_bind (wpAny_holding ?_))
    show wpAny _ _ (Builtin.SmallTypes.nextOf (.ref i1) >>= _) _ _ _
    cases hx : xs[k1]? with
    | none =>
      refine wpAny_bind (RZ.nextOf_tuple_end hh (h1.extBut s₁.extBut D.i1z) (hl1.extBut s₁.extBut D.l1z) hx fun h₂ e s₂ he => ?_)
      exact hE h₂ e (fun c o c1 _ c3 _ q => s₂ _ _ c3 (s₁.extBut _ _ c1 q)) he
    | some x =>
      have hy : ys[k2]? = none := by rcases hend with q | q; rw [hx] at q; cases q; exact q
      refine wpAny_bind (RZ.nextOf_tuple_item (h1.extBut s₁.extBut D.i1z) (hl1.extBut s₁.extBut D.l1z) hx fun h₂ n₂ s₂ => wpAny_pure (wpAny_pure (wpAny_bind (wpAny_bind (wpAny_holding ?_)))))
      show wpAny _ _ (Builtin.SmallTypes.nextOf (.ref i2) >>= _) _ _ _
      refine wpAny_bind (RZ.nextOf_tuple_end hh ((h2.extBut s₁.extBut D.i2z).extBut s₂.extBut D.i12.symm) ((hl2.extBut s₁.extBut D.l2z).extBut s₂.extBut D.l2i1) hy fun h₃ e s₃ he => ?_)
      exact hE h₃ e (fun c o c1 _ c3 c4 q => s₃ _ _ c4 (s₂.extBut _ _ c3 (s₁.extBut _ _ c1 q))) he
/-- next of what is no list: by its type -/
theorem z_nextOf {z TI TO : Addr} {f0 : Value} {f : Bool} {Q : Value → Shared → Prop} (hz : IsZ s.heap z TI TO f0 f)
    (h : wpAny (model prog w) A.in1 (Builtin.«zip.__next__» ⟨[.ref z], []⟩) (fun fin s' => ∃ v, fin = .done (.ret v) ∧ Q v s') E s) : wpAny (model prog w) A (Builtin.SmallTypes.nextOf (.ref z)) Q E s := by
  have hT : s.TypeIs (.ref z) "zip" := ⟨_, hz, rfl⟩
  unfold Builtin.SmallTypes.nextOf
  refine wpAny_bind (wpAny_callSpecial?_slot (name := Str.ofString "__next__") hT F.slot_zip_next (wpAny_call_entry F.slot_zip_next hT F.entry_zip_next (wpAny_mono h (fun fin s' q => ?_) fun _ _ e => e) (F.args_zip_next_1 _)))
  obtain ⟨v, rfl, q⟩ := q
  exact ⟨v, rfl, wpAny_pure q⟩
end
end PySem


set_option Elab.async false
set_option linter.all false
set_option maxRecDepth 100000
set_option maxHeartbeats 2000000
set_option autoImplicit false
namespace PySem
open Sem (wp)
open AutoSeq1 (wpAny_loadPart')
section
variable {prog : Program} {w : World} {A : Around} {E : Value → Shared → Prop} {s : Shared}
/-- the next of an enumerate over a zip of two tuples: the pair at s, the pair with the count behind it -/
theorem ez_item {e z TI TO i1 i2 l1 l2 : Addr} {c : Int} {old f0 : Value} {f : Bool} {k1 k2 : Nat} {xs ys : Array Value} {x y a b : Value} {Q : Value → Shared → Prop} (D : ZipApart z TI TO i1 i2 l1 l2)
    (d1 : e ≠ z) (d2 : e ≠ TO) (d3 : e ≠ i1) (d4 : e ≠ i2) (he : IsEnum s.heap e z c old)
    (hz : IsZ s.heap z TI TO f0 f) (ho : OutV f0) (hI : IsPair s.heap TI (.ref i1) (.ref i2)) (hO : IsPair s.heap TO a b)
    (h1 : s.heap.IsTupleIter i1 l1 k1) (h2 : s.heap.IsTupleIter i2 l2 k2) (hl1 : s.heap.IsTuple l1 xs) (hl2 : s.heap.IsTuple l2 ys) (hx : xs[k1]? = some x) (hy : ys[k2]? = some y)
    (hQ : ∀ h₁ h' g0 g, (∀ c o, c ≠ z → c ≠ TO → c ≠ i1 → c ≠ i2 → s.heap.get? c = some o → h₁.get? c = some o) → h₁.objs.size = s.heap.objs.size + 1 → IsPair h₁ s.heap.objs.size x y → (∀ b o, b ≠ e → h₁.get? b = some o → h'.get? b = some o) →
      IsEnumOut h' e z (c + 1) (.ref s.heap.objs.size) (s.heap.objs.size + 1) → IsZ h' z TI TO g0 g → OutV g0 → (∃ u v, IsPair h' TO u v) → h'.IsTupleIter i1 l1 (k1 + 1) → h'.IsTupleIter i2 l2 (k2 + 1) →
      IsPair h' (s.heap.objs.size + 1) (.int c s.toks) (.ref s.heap.objs.size) → Q (.ref (s.heap.objs.size + 1)) { s with heap := h', toks := s.toks + 1 }) :
    wpAny (model prog w) A (Builtin.«enumerate.__next__» ⟨[.ref e], []⟩) (fun fin s' => ∃ v, fin = .done (.ret v) ∧ Q v s') E s := by
  obtain ⟨hp, g, d, tk, os⟩ := s
  have elt : e < hp.objs.size := Heap.lt_size he
  show wpAny _ _ (field (.ref e) 2 >>= _) _ _ _
  refine wpAny_bind (wpAny_field he rfl (x := .ref z) rfl (wpAny_bind (z_nextOf hz (z_item D hz ho hI hO h1 h2 hl1 hl2 hx hy fun h₁ g0 gf z₁ o₁ O₁ n1 n2 T₁ sz₁ k₁ => ?_))))
  replace T₁ : IsPair h₁ hp.objs.size x y := T₁
  replace sz₁ : h₁.objs.size = hp.objs.size + 1 := sz₁
  replace k₁ : ∀ c o, c ≠ z → c ≠ TO → c ≠ i1 → c ≠ i2 → hp.get? c = some o → h₁.get? c = some o := k₁
  have e₁ : IsEnum h₁ e z c old := k₁ e _ d1 d2 d3 d4 he
  show wpAny _ _ (field (.ref e) 3 >>= _) _ _ ⟨h₁, g, d, tk, os⟩
  refine wpAny_bind (wpAny_field e₁ rfl (x := rawInt c) rfl ?_)
  show wpAny _ _ (field (.ref e) 4 >>= _) _ _ ⟨h₁, g, d, tk, os⟩
  refine wpAny_bind (wpAny_field e₁ rfl (x := .none) rfl ?_)
  show wpAny _ _ (mkInt c >>= _) _ _ ⟨h₁, g, d, tk, os⟩
  refine wpAny_bind (wpAny_mkInt ?_)
  show wpAny _ _ (setField (.ref e) 3 (rawInt (c + 1)) >>= _) _ _ ⟨h₁, g, d, tk + 1, os⟩
  refine wpAny_bind (wpAny_setField_rec e₁ (by simp) fun h₂ e₂ s₂ => ?_)
  replace s₂ : Heap.SameBut e h₁ h₂ := s₂
  replace e₂ : IsEnum h₂ e z (c + 1) old := e₂
  show wpAny _ _ (setField (.ref e) 4 .none >>= _) _ _ ⟨h₂, g, d, tk + 1, os⟩
  refine wpAny_bind (wpAny_setField_rec e₂ (by simp) fun h₃ e₃ s₃ => ?_)
  replace s₃ : Heap.SameBut e h₂ h₃ := s₃
  replace e₃ : IsEnum h₃ e z (c + 1) old := e₃
  show wpAny _ _ (newTuple [.int c tk, .ref hp.objs.size] >>= _) _ _ ⟨h₃, g, d, tk + 1, os⟩
  refine wpAny_bind (wpAny_newTuple ?_)
  have sz₃ : h₃.objs.size = hp.objs.size + 1 := by rw [s₃.1, s₂.1, sz₁]
  have e₄ : IsEnum (h₃.push { cls := .type "tuple", data := .seq #[.int c tk, .ref hp.objs.size] }) e z (c + 1) old := Heap.get?_push_of_some _ e₃
  have T₄ : IsPair (h₃.push { cls := .type "tuple", data := .seq #[.int c tk, .ref hp.objs.size] }) (hp.objs.size + 1) (.int c tk) (.ref hp.objs.size) := by rw [← sz₃]; exact Heap.get?_push_size _ rfl
  have k₄ : ∀ b o, b ≠ e → h₁.get? b = some o → (h₃.push { cls := .type "tuple", data := .seq #[.int c tk, .ref hp.objs.size] }).get? b = some o := fun b o n q => Heap.get?_push_of_some _ (s₃.extBut b o n (s₂.extBut b o n q))
  have sz₄ : (h₃.push { cls := .type "tuple", data := .seq #[.int c tk, .ref hp.objs.size] }).objs.size = hp.objs.size + 2 := by rw [Heap.size_push, sz₃]
  generalize h₃.push { cls := .type "tuple", data := .seq #[.int c tk, .ref hp.objs.size] } = h₄ at e₄ T₄ k₄ sz₄
  show wpAny _ _ (Builtin.SmallTypes.ownedTupleIsFree (.ref e) >>= _) _ _ ⟨h₄, g, d, tk + 1, os⟩
  rw [sz₃]
  refine wpAny_bind ?_
  unfold Builtin.SmallTypes.ownedTupleIsFree
  refine wpAny_bind (wpAny_field e₄ rfl (x := .none) rfl (wpAny_pure ?_))
  simp only [if_true]
  refine wpAny_bind (wpAny_rule (wpAny_bind (wpAny_field e₄ rfl (x := old) rfl (wpAny_bind (wpAny_setField_rec e₄ (by simp) fun h₅ e₅ s₅ => ?_)))))
  replace s₅ : Heap.SameBut e h₄ h₅ := s₅
  replace e₅ : IsEnum h₅ e z (c + 1) (.ref hp.objs.size) := e₅
  show wpAny _ _ (Builtin.SmallTypes.ownedTupleHandOut (.ref e) (.ref (hp.objs.size + 1)) >>= _) _ _ ⟨h₅, g, d, tk + 1, os⟩
  refine wpAny_bind ?_
  unfold Builtin.SmallTypes.ownedTupleHandOut
  refine wpAny_bind (wpAny_setField_rec e₅ (by simp) fun h₆ e₆ s₆ => ?_)
  replace s₆ : Heap.SameBut e h₅ h₆ := s₆
  replace e₆ : IsEnumOut h₆ e z (c + 1) (.ref hp.objs.size) (hp.objs.size + 1) := e₆
  refine wpAny_setField_rec e₆ (by simp) fun h₇ e₇ s₇ => ?_
  replace s₇ : Heap.SameBut e h₆ h₇ := s₇
  replace e₇ : IsEnumOut h₇ e z (c + 1) (.ref hp.objs.size) (hp.objs.size + 1) := e₇
  have k₇ : ∀ b o, b ≠ e → h₄.get? b = some o → h₇.get? b = some o := fun b o n q => s₇.extBut b o n (s₆.extBut b o n (s₅.extBut b o n q))
  have up : ∀ b o, b ≠ e → h₁.get? b = some o → h₇.get? b = some o := fun b o n q => k₇ b o n (k₄ b o n q)
  obtain ⟨u, v, O₁⟩ := O₁
  exact wpAny_bind (wpAny_letGo (wpAny_pure ⟨_, rfl, hQ h₁ h₇ g0 gf k₁ sz₁ T₁ up e₇ (up _ _ d1.symm z₁) o₁ ⟨u, v, up _ _ d2.symm O₁⟩ (n1.at fun o q => up _ o d3.symm q) (n2.at fun o q => up _ o d4.symm q) (k₇ _ _ (Nat.ne_of_gt (Nat.lt_succ_of_lt elt)) T₄)⟩))
theorem ez_next {e z TI TO i1 i2 l1 l2 : Addr} {c : Int} {old f0 : Value} {f : Bool} {k1 k2 : Nat} {xs ys : Array Value} {x y a b : Value} {Q : Option Value → Shared → Prop} (D : ZipApart z TI TO i1 i2 l1 l2)
    (d1 : e ≠ z) (d2 : e ≠ TO) (d3 : e ≠ i1) (d4 : e ≠ i2) (he : IsEnum s.heap e z c old)
    (hz : IsZ s.heap z TI TO f0 f) (ho : OutV f0) (hI : IsPair s.heap TI (.ref i1) (.ref i2)) (hO : IsPair s.heap TO a b)
    (h1 : s.heap.IsTupleIter i1 l1 k1) (h2 : s.heap.IsTupleIter i2 l2 k2) (hl1 : s.heap.IsTuple l1 xs) (hl2 : s.heap.IsTuple l2 ys) (hx : xs[k1]? = some x) (hy : ys[k2]? = some y)
    (hQ : ∀ h₁ h' g0 g, (∀ c o, c ≠ z → c ≠ TO → c ≠ i1 → c ≠ i2 → s.heap.get? c = some o → h₁.get? c = some o) → h₁.objs.size = s.heap.objs.size + 1 → IsPair h₁ s.heap.objs.size x y → (∀ b o, b ≠ e → h₁.get? b = some o → h'.get? b = some o) →
      IsEnumOut h' e z (c + 1) (.ref s.heap.objs.size) (s.heap.objs.size + 1) → IsZ h' z TI TO g0 g → OutV g0 → (∃ u v, IsPair h' TO u v) → h'.IsTupleIter i1 l1 (k1 + 1) → h'.IsTupleIter i2 l2 (k2 + 1) →
      IsPair h' (s.heap.objs.size + 1) (.int c s.toks) (.ref s.heap.objs.size) → Q (some (.ref (s.heap.objs.size + 1))) { s with heap := h', toks := s.toks + 1 }) :
    wpAny (model prog w) A (pyNext (.ref e)) Q E s := by
  have hT : s.TypeIs (.ref e) "enumerate" := ⟨_, he, rfl⟩
  unfold pyNext
  exact wpAny_bind (wpAny_attempt (wpAny_callSpecial?_slot (name := Str.ofString "__next__") hT F.slot_enumerate_next
    (wpAny_call_entry F.slot_enumerate_next hT F.entry_enumerate_next (ez_item D d1 d2 d3 d4 he hz ho hI hO h1 h2 hl1 hl2 hx hy fun h₁ h' g0 g q1 q2 q3 q4 q5 q6 q7 q8 q9 q10 q11 => wpAny_pure (hQ h₁ h' g0 g q1 q2 q3 q4 q5 q6 q7 q8 q9 q10 q11)) (F.args_enumerate_next_1 _))))
theorem ez_stop {e z TI TO i1 i2 l1 l2 : Addr} {c : Int} {old f0 : Value} {f : Bool} {k1 k2 : Nat} {xs ys : Array Value} {a b : Value} {Q : Option Value → Shared → Prop} (hh : A.handled = none) (D : ZipApart z TI TO i1 i2 l1 l2)
    (he : IsEnum s.heap e z c old)
    (hz : IsZ s.heap z TI TO f0 f) (ho : OutV f0) (hI : IsPair s.heap TI (.ref i1) (.ref i2)) (hO : IsPair s.heap TO a b)
    (h1 : s.heap.IsTupleIter i1 l1 k1) (h2 : s.heap.IsTupleIter i2 l2 k2) (hl1 : s.heap.IsTuple l1 xs) (hl2 : s.heap.IsTuple l2 ys) (hend : xs[k1]? = none ∨ ys[k2]? = none)
    (hQ : ∀ h', (∀ c o, c ≠ z → c ≠ TO → c ≠ i1 → c ≠ i2 → s.heap.get? c = some o → h'.get? c = some o) → Q none { s with heap := h' }) :
    wpAny (model prog w) A (pyNext (.ref e)) Q E s := by
  have hT : s.TypeIs (.ref e) "enumerate" := ⟨_, he, rfl⟩
  unfold pyNext
  refine wpAny_bind (wpAny_attempt (wpAny_callSpecial?_slot (name := Str.ofString "__next__") hT F.slot_enumerate_next
    (wpAny_call_entry F.slot_enumerate_next hT F.entry_enumerate_next ?_ (F.args_enumerate_next_1 _))))
  show wpAny _ _ (field (.ref e) 2 >>= _) _ _ _
  refine wpAny_bind (wpAny_field he rfl (x := .ref z) rfl (wpAny_bind (z_nextOf hz (z_end hh D hz ho hI hO h1 h2 hl1 hl2 hend fun h' x hk hx' => ?_))))
  obtain ⟨o, ho, hc⟩ := hx'
  exact wpAny_bind (wpAny_isInstance (T := "StopIteration") (b := true) ⟨o, ho, hc⟩ isSubtype_stop (wpAny_pure (hQ _ hk)))
end
theorem meets_enumerate_newZ (z TI TO : Addr) :
    Meets (Builtin.«enumerate.__new__» ⟨[.type "enumerate", .ref z], []⟩) (fun _ R s => IsZip s.heap z TI TO .none ∧
      R (.ok (.ret (.ref s.heap.objs.size))) { s with heap := s.heap.push { cls := .type "enumerate", data := .fields #[.none, .bool false, .ref z, rawInt 0, .none, .none] } }) :=
  .of_wp fun prog w A R s h => by
    obtain ⟨hp, g, d, tk, os⟩ := s; obtain ⟨hl, h⟩ := h
    have hsub := sub_enumerate
    have hL : IsZip (Shared.heap ⟨hp, g, d, tk, os⟩) z TI TO .none := hl
    have q1 : ∀ {A' : Around} {E : Value → Shared → Prop} {Q : Value → Shared → Prop}, Q (.ref z) ⟨hp, g, d, tk, os⟩ → wpAny (model prog w) A' (pyIter (.ref z)) Q E ⟨hp, g, d, tk, os⟩ := fun q => wpAny_pyIter_zip hL q
    wp_walk using wpAny_loadPart' hl
    refine wpAny_stack_any fun st => wpAny_pure ?_
    split
    · rename_i c _ _ _ _ _
      cases (c == Value.type "enumerate")
      · wp_walk using wpAny_loadPart' hl, q1
        exact ⟨_, rfl, h⟩
      · wp_walk using wpAny_loadPart' hl, q1
        exact ⟨_, rfl, h⟩
    · wp_walk using wpAny_loadPart' hl, q1
      exact ⟨_, rfl, h⟩
section
variable {prog : Program} {w : World} {A : Around} {E : Value → Shared → Prop} {s : Shared}
theorem call_enumerate_zip {z TI TO : Addr} {Q : Value → Shared → Prop} (hz : IsZip s.heap z TI TO .none)
    (h : ∀ h', IsEnum h' s.heap.objs.size z 0 .none → h'.objs.size = s.heap.objs.size + 1 → (∀ b o, s.heap.get? b = some o → h'.get? b = some o) → Q (.ref s.heap.objs.size) { s with heap := h' }) :
    wpAny (model prog w) A (call (.type "enumerate") [.ref z]) Q E s := by
  refine callType_new F.called_enumerate (by decide) (F.typeCall_enumerate_1 _) (F.newCall_enumerate_1 _) (fun obj => F.args_object_init_2 obj _) F.entry_enumerate_new
    (meets_enumerate_newZ z TI TO) ⟨hz, ?_⟩
  have he : IsEnum (s.heap.push { cls := .type "enumerate", data := .fields #[.none, .bool false, .ref z, rawInt 0, .none, .none] }) s.heap.objs.size z 0 .none := Heap.get?_push_size _ rfl
  exact ⟨⟨_, he, rfl⟩, h _ he (Heap.size_push ..) fun b o x => Heap.get?_push_of_some _ x⟩
end
end PySem


set_option Elab.async false
set_option linter.all false
set_option maxRecDepth 100000
set_option maxHeartbeats 2000000
set_option autoImplicit false
namespace L2
open PySem PySem.Spec PyProof.Rows
/-- enumerate over zip of the tuples at a and b: each turn two new tuples -/
def Itez (K : PySem.W.Frag) (a b : Addr) : It where
  go i H := ∃ (xs ys : List V) (x y : V), SqT K H a xs ∧ SqT K H b ys ∧ xs[i]? = some x ∧ ys[i]? = some y
  yld i H v H' := ∃ S T x y, v = .ref T ∧ H S = none ∧ H T = none ∧ S ≠ T ∧ H' = upd (upd H S (.tup [x, y])) T (.tup [.int (i : Nat), .ref S]) ∧ (∀ xs, SqT K H a xs → xs[i]? = some x) ∧ ∀ ys, SqT K H b ys → ys[i]? = some y
  stop i H := ∃ xs ys : List V, SqT K H a xs ∧ SqT K H b ys ∧ (xs.length ≤ i ∨ ys.length ≤ i)
structure EzAt (e z TI TO i1 i2 a b : Addr) (i : Nat) (h : Heap) : Prop where
  en : ∃ old, IsEnum h e z ((i : Nat) : Int) old
  zp : ∃ f0 f, IsZ h z TI TO f0 f ∧ OutV f0
  ins : IsPair h TI (.ref i1) (.ref i2)
  out : ∃ x y, IsPair h TO x y
  it1 : h.IsTupleIter i1 a i
  it2 : h.IsTupleIter i2 b i
theorem EzAt.cells {e z TI TO i1 i2 a b : Addr} {i : Nat} {h : Heap} (st : EzAt e z TI TO i1 i2 a b i h) {c : Addr} (hc : c ∈ [e, z, TI, TO, i1, i2]) : ∃ o, h.get? c = some o ∧ ∀ v, o.data ≠ .cell v := by
  obtain ⟨⟨old, he⟩, ⟨f0, f, hz, _⟩, hI, ⟨x, y, hO⟩, ⟨o1, e1, _, d1⟩, ⟨o2, e2, _, d2⟩⟩ := st
  simp only [List.mem_cons, List.not_mem_nil, or_false] at hc
  rcases hc with rfl | rfl | rfl | rfl | rfl | rfl
  · exact ⟨_, he, fun v => nofun⟩
  · exact ⟨_, hz, fun v => nofun⟩
  · exact ⟨_, hI, fun v => nofun⟩
  · exact ⟨_, hO, fun v => nofun⟩
  · exact ⟨o1, e1, fun v q => by rw [d1] at q; cases q⟩
  · exact ⟨o2, e2, fun v q => by rw [d2] at q; cases q⟩
theorem turn_enumZ {P : Program} {w : World} {K : PySem.W.Frag} {elts : List Expr} {kk : Nat} {tpos : Pos} {a b e z TI TO i1 i2 : Addr} (D : ZipApart z TI TO i1 i2 a b) (d1 : e ≠ z) (d0 : e ≠ TI) (d2 : e ≠ TO) (d3 : e ≠ i1) (d4 : e ≠ i2) :
    Turn P w K (.Tuple elts kk tpos) (Itez K a b) [e, z, TI, TO, i1, i2] e (EzAt e z TI TO i1 i2 a b) where
  mem := List.mem_cons_self
  obj i h st c hc := st.cells hc
  keep i h h' st k := by
    obtain ⟨⟨old, he⟩, ⟨f0, f, hz, ho⟩, hI, ⟨x, y, hO⟩, h1, h2⟩ := st
    exact ⟨⟨old, k e (by simp) _ he⟩, ⟨f0, f, k z (by simp) _ hz, ho⟩, k TI (by simp) _ hI, ⟨x, y, k TO (by simp) _ hO⟩, h1.at fun o q => k i1 (by simp) o q, h2.at fun o q => k i2 (by simp) o q⟩
  item := by
    intro X hP hw hK hc i pins s σ H E I hf st hg
    subst hP hw hK
    have lc : ∀ {c : Addr}, c ∈ [e, z, TI, TO, i1, i2] → c < s.heap.objs.size := fun hm => let ⟨_, q, _⟩ := st.cells hm; Heap.lt_size q
    obtain ⟨⟨old, he⟩, ⟨f0, f, hz, ho⟩, hI, ⟨x0, y0, hO⟩, h1, h2⟩ := st
    obtain ⟨xs, ys, x, y, hqx, hqy, hx, hy⟩ := hg
    obtain ⟨us, ru, p, _⟩ := I.tuple hqx
    obtain ⟨ws, rw', p2, _⟩ := I.tuple hqy
    obtain ⟨u, hu, rx⟩ := ru.get hx
    obtain ⟨u2, hu2, ry⟩ := rw'.get hy
    have elt : e < s.heap.objs.size := lc (by simp)
    refine ez_next D d1 d2 d3 d4 he hz ho hI hO h1 h2 p p2 (x := u) (y := u2) (by simpa using hu) (by simpa using hu2) fun h₁ h' g0 g k₁ sz₁ T₁ k' e' z' o' O' n1 n2 T' => ?_
    refine ⟨_, rfl, wpAny_letOwnedTupleGo_enum (s := { s with heap := h', toks := s.toks + 1 }) e' fun h'' e'' sb => ?_⟩
    have k2 : ∀ c o, c ≠ e → h'.get? c = some o → h''.get? c = some o := fun c o n q => (sb.2 c n).trans q
    have newS : ObjOk X.prog X.w (upd H s.heap.objs.size (.tup [x, y])) h₁ s.heap.objs.size (.tup [x, y]) :=
      ⟨by show 2 ≤ sizeLine; decide, [u, u2], .cons rx (.cons ry .nil), ⟨_, T₁, rfl, _, rfl⟩⟩
    have I1 : Inv X pins σ (upd H s.heap.objs.size (.tup [x, y])) { s with heap := h₁, toks := s.toks } :=
      I.turnedNew (ch := [z, TI, TO, i1, i2]) (fun c o nc q => by
        simp only [List.mem_cons, List.not_mem_nil, or_false, not_or] at nc
        exact k₁ c o nc.1 nc.2.2.1 nc.2.2.2.1 nc.2.2.2.2 q) (fun c hm => hf c (List.mem_cons_of_mem _ hm)) (Nat.le_refl _) newS
    have T2 : h''.get? (s.heap.objs.size + 1) = some { cls := .type "tuple", data := .seq #[.int i s.toks, .ref s.heap.objs.size] } := k2 _ _ (Nat.ne_of_gt (Nat.lt_succ_of_lt elt)) T'
    have newT : ObjOk X.prog X.w (upd (upd H s.heap.objs.size (.tup [x, y])) (s.heap.objs.size + 1) (.tup [.int (i : Nat), .ref s.heap.objs.size])) h'' (s.heap.objs.size + 1) (.tup [.int (i : Nat), .ref s.heap.objs.size]) :=
      ⟨by show 2 ≤ sizeLine; decide, [.int i s.toks, .ref s.heap.objs.size], .cons ⟨_, rfl⟩ (.cons rfl .nil), ⟨_, T2, rfl, _, rfl⟩⟩
    have I2 : Inv X pins σ (upd (upd H s.heap.objs.size (.tup [x, y])) (s.heap.objs.size + 1) (.tup [.int (i : Nat), .ref s.heap.objs.size])) { s with heap := h'', toks := s.toks + 1 } :=
      I1.turnedNew (t' := s.toks + 1) (h' := h'') (ch := [e]) (fun c o nc q => k2 c o (fun z => nc (by simp [z])) (k' c o (fun z => nc (by simp [z])) q)) (fun c hm => by
        rw [List.mem_singleton] at hm
        subst hm
        exact ⟨by rw [upd_ne (Nat.ne_of_lt elt)]; exact (hf c (by simp)).1, (hf c (by simp)).2⟩) (by show h₁.objs.size ≤ _; rw [sz₁]; exact Nat.le_refl _) newT
    refine ⟨.ref (s.heap.objs.size + 1), _, I2, rfl, ⟨s.heap.objs.size, s.heap.objs.size + 1, x, y, rfl, I.hok.fresh (Nat.le_refl _), I.hok.fresh (Nat.le_succ _), Nat.ne_of_lt (Nat.lt_succ_self _), rfl, fun l hl => ?_, fun l hl => ?_⟩, ?_, fun c hm => ?_⟩
    · rw [I.tuple_inj hl hqx]; exact hx
    · rw [I.tuple_inj hl hqy]; exact hy
    · obtain ⟨u', v', O'⟩ := O'
      have e1 : ((i + 1 : Nat) : Int) = (i : Int) + 1 := by omega
      exact ⟨⟨_, by rw [e1]; exact e''⟩, ⟨g0, g, k2 _ _ d1.symm z', o'⟩, k2 _ _ d0.symm (k' _ _ d0.symm (k₁ _ _ D.TIz D.TITO D.TIi1 D.TIi2 hI)), ⟨u', v', k2 _ _ d2.symm O'⟩, n1.at fun o q => k2 _ _ d3.symm q, n2.at fun o q => k2 _ _ d4.symm q⟩
    · rw [upd_ne (Nat.ne_of_lt (Nat.lt_succ_of_lt (lc hm))), upd_ne (Nat.ne_of_lt (lc hm))]
      exact (hf c hm).1
  done := by
    intro X hP hw hK hc i pins s σ H E I hf st hg
    subst hP hw hK
    obtain ⟨⟨old, he⟩, ⟨f0, f, hz, ho⟩, hI, ⟨x0, y0, hO⟩, h1, h2⟩ := st
    obtain ⟨xs, ys, hqx, hqy, hend⟩ := hg
    obtain ⟨us, ru, p, _⟩ := I.tuple hqx
    obtain ⟨ws, rw', p2, _⟩ := I.tuple hqy
    have l1 := ru.length
    have l2 := rw'.length
    have hn : us.toArray[i]? = none ∨ ws.toArray[i]? = none := by
      rcases hend with q | q
      · exact .inl (by simp; omega)
      · exact .inr (by simp; omega)
    exact ez_stop (I.ok.hd hc) D he hz ho hI hO h1 h2 p p2 hn fun h' hk => ⟨rfl, I.turnedL (t' := s.toks) (ch := [e, z, TI, TO, i1, i2]) (fun c o hb q => by
      simp only [List.mem_cons, List.not_mem_nil, or_false, not_or] at hb
      exact hk c o hb.2.1 hb.2.2.2.1 hb.2.2.2.2.1 hb.2.2.2.2.2 q) hf⟩
  self := fun A i s Q E st h => let ⟨_, he⟩ := st.en; wpAny_pyIter_enum he h
def iEnumZ (K : PySem.W.Frag) (ta : TA) : TI := fun σ H R => ta σ H fun vs H1 => ∃ a b xs ys, vs = [.ref a, .ref b] ∧ SqT K H1 a xs ∧ SqT K H1 b ys ∧ R (Itez K a b) H1
theorem pi_enumZ {X : Cx} {e1 e2 : Expr} {ta : TA} {p p2 pos pos2 tpos : Pos} {elts : List Expr} {kk : Nat} (hg : Gl X "enumerate") (hm : X.mg "enumerate" = none) (hg2 : Gl X "zip") (hm2 : X.mg "zip" = none) (ha : PA X [e1, e2] ta)
    (hs : starEach [e1, e2] X.env = (false, eval e1 X.env) :: starEach [e2] X.env := by rfl) (hpl : (backTo pos2 (starEach [e2] X.env)).any (·.1) = false := by rfl)
    (na : starEach [.Call (.Name "zip" p2) [e1, e2] [] pos2] X.env = (false, eval (.Call (.Name "zip" p2) [e1, e2] [] pos2) X.env) :: starEach [] X.env := by rfl) :
    PI X (.Tuple elts kk tpos) (.Call (.Name "enumerate" p) [.Call (.Name "zip" p2) [e1, e2] [] pos2] [] pos) (iEnumZ X.K ta) := by
  refine ⟨fun pins s σ H R I h => ?_⟩
  have Z : wpAny (model X.prog X.w) X.A (eval (.Call (.Name "zip" p2) [e1, e2] [] pos2) X.env) (fun v s' => ∃ N a b H1, v = .ref (N + 4) ∧ Inv X pins σ H1 s' ∧ IsZip s'.heap (N + 4) (N + 2) (N + 3) .none ∧ IsPair s'.heap (N + 2) (.ref N) (.ref (N + 1)) ∧ IsPair s'.heap (N + 3) .none .none ∧
      s'.heap.IsTupleIter N a 0 ∧ s'.heap.IsTupleIter (N + 1) b 0 ∧ s'.heap.objs.size = N + 5 ∧ a < N ∧ b < N ∧ (∀ c, N ≤ c → H1 c = none ∧ FpOk X pins H1 c) ∧ R (Itez X.K a b) H1) X.xe s := by
    refine Call_ (ld_blt I hg2 hm2 PyProof.Rows.boot_zip (PyProof.Rows.callWith_type1 (thn (ha.run pos2 pins s σ H _ I h) fun us s1 ⟨vs, H1, I1, r1, q1⟩ => ?_) hs hpl))
    obtain ⟨a, b, xs, ys, ex, hqx, hqy, q⟩ := q1
    subst ex
    cases r1 with
    | cons r rr =>
    cases rr with
    | cons r' rr =>
    cases rr
    cases r
    cases r'
    obtain ⟨its, rv, p1, _⟩ := I1.tuple hqx
    obtain ⟨its2, rv2, p2, _⟩ := I1.tuple hqy
    obtain ⟨o1, ho1, _⟩ := id p1
    obtain ⟨o2, ho2, _⟩ := id p2
    refine RZ.call_zipT (show s1.heap.IsTuple a its.toArray from p1) (show s1.heap.IsTuple b its2.toArray from p2) fun h' hz hTI hTO h1 h2 hsz hk => ?_
    have I2 : Inv X pins σ H1 { s1 with heap := h' } := I1.kept (t' := s1.toks) hk
    exact ⟨s1.heap.objs.size, a, b, H1, rfl, I2, hz, hTI, hTO, h1, h2, hsz, Heap.lt_size ho1, Heap.lt_size ho2, fun c hc => ⟨I1.hok.fresh hc, I1.fpOk hc (I1.hok.fresh hc)⟩, q⟩
  refine Call_ (ld_blt I hg hm boot_enumerate (PyProof.Rows.callWith_type1 (args_cons (thn Z fun x s1 ⟨N, a, b, H1, ex, I1, hz, hTI, hTO, h1, h2, hsz, la, lb, fr, q⟩ => args_nil ?_) na) na))
  subst ex
  refine call_enumerate_zip hz fun h' he hsz' hk => wpAny_pyIter_enum he ?_
  have I2 : Inv X pins σ H1 { s1 with heap := h' } := I1.kept (t' := s1.toks) hk
  rw [hsz] at he ⊢
  refine ⟨N + 5, [N + 5, N + 4, N + 2, N + 3, N, N + 1], _, _, H1, rfl, I2, turn_enumZ (PySem.W.ktu_apart N a b la lb) ?_ ?_ ?_ ?_ ?_, ⟨⟨_, he⟩, ⟨_, _, hk _ _ hz, .inl rfl⟩, hk _ _ hTI, ⟨_, _, hk _ _ hTO⟩, h1.at fun o q => hk _ o q, h2.at fun o q => hk _ o q⟩, fun c hc => (fr c ?_).2, q⟩
  all_goals try (exact Nat.ne_of_gt (by show (_ : Nat) < _; omega))
  simp only [List.mem_cons, List.not_mem_nil, or_false] at hc
  rcases hc with rfl | rfl | rfl | rfl | rfl | rfl
  all_goals (first | exact Nat.le_add_right _ _ | exact Nat.le_refl _)
/-- a loop over it -/
theorem for_enumZ {K : PySem.W.Frag} {a b : Addr} {xs ys : List V} {g : TG} {tb : TS} {D : Ends} {σ : St} {H : Hp} (hl : xs.length = ys.length) (Pv : Nat → St → Hp → Prop) (h0 : Pv 0 σ H) (hq : ∀ i σ H, Pv i σ H → SqT K H a xs ∧ SqT K H b ys)
    (hs : ∀ i x y S T σ H, xs[i]? = some x → ys[i]? = some y → H S = none → H T = none → S ≠ T → Pv i σ H → g (.ref T) σ (upd (upd H S (.tup [x, y])) T (.tup [.int (i : Nat), .ref S])) fun σ2 H2 => tb { D with nx := Pv (i + 1), ct := Pv (i + 1), bk := D.nx } σ2 H2)
    (hd : ∀ σ H, Pv xs.length σ H → D.nx σ H) :
    ∃ W : Nat → Nat → St → Hp → Prop, (∃ m, W 0 m σ H) ∧ ∀ i m σ H, W i m σ H →
      ((Itez K a b).stop i H ∧ D.nx σ H) ∨ ((Itez K a b).go i H ∧ ∃ N : St → Hp → Prop, (∀ σ' H', N σ' H' → ∃ m', m' < m ∧ W (i + 1) m' σ' H') ∧ ∀ x H', (Itez K a b).yld i H x H' → g x σ H' fun σ2 H2 => tb { D with nx := N, ct := N, bk := D.nx } σ2 H2) := by
  refine ⟨fun i m σ H => m = xs.length - i ∧ i ≤ xs.length ∧ Pv i σ H, ⟨xs.length, by simp, Nat.zero_le _, h0⟩, ?_⟩
  rintro i m σ H ⟨rfl, hi, p⟩
  obtain ⟨qa, qb⟩ := hq i σ H p
  by_cases hlt : i < xs.length
  · refine .inr ⟨⟨xs, ys, _, _, qa, qb, List.getElem?_eq_getElem hlt, List.getElem?_eq_getElem (by omega)⟩, Pv (i + 1), fun σ' H' p' => ⟨xs.length - (i + 1), by omega, rfl, hlt, p'⟩, fun v H' y => ?_⟩
    obtain ⟨S, T, x, y, rfl, hS, hT, hST, rfl, f1, f2⟩ := y
    exact hs i x y S T σ H (f1 xs qa) (f2 ys qb) hS hT hST p
  · have e : i = xs.length := by omega
    subst e
    exact .inl ⟨⟨xs, ys, qa, qb, .inl (Nat.le_refl _)⟩, hd σ H p⟩
end L2


set_option Elab.async false
set_option linter.all false
set_option maxRecDepth 100000
set_option maxHeartbeats 2000000
set_option autoImplicit false
namespace L2
open PySem PySem.Spec PyProof.Rows
/-- a list (k) or a tuple -/
def SqK (K : PySem.W.Frag) : Bool → Hp → Addr → List V → Prop
  | true => SqL K
  | false => SqT K
def HpSeq : Bool → Heap → Addr → Array Value → Prop
  | true => Heap.IsList
  | false => Heap.IsTuple
def HpIter : Bool → Heap → Addr → Addr → Nat → Prop
  | true => Heap.IsListIter
  | false => Heap.IsTupleIter
def itObj : Bool → Addr → Obj
  | true, a => { cls := .type "list_iterator", data := .fields #[.ref a, .int 0 0] }
  | false, a => { cls := .type "tuple_iterator", data := .fields #[.ref a, .int 0 0] }
theorem Inv.seqK {X : Cx} {pins : List (Addr × Obj)} {σ : St} {H : Hp} {s : Shared} (I : Inv X pins σ H s) {k : Bool} {a : Addr} {xs : List V} (q : SqK X.K k H a xs) : ∃ us : List Value, Vals xs us ∧ HpSeq k s.heap a us.toArray ∧ a < s.heap.objs.size := by
  cases k with
  | true =>
    obtain ⟨us, ru, pu, _⟩ := I.list q
    exact ⟨us, ru, pu.isList, pu.lt⟩
  | false =>
    obtain ⟨us, ru, pu, _⟩ := I.tuple q
    obtain ⟨o, ho, _⟩ := id pu
    exact ⟨us, ru, pu, Heap.lt_size ho⟩
theorem Inv.seqK_inj {X : Cx} {pins : List (Addr × Obj)} {σ : St} {H : Hp} {s : Shared} (I : Inv X pins σ H s) {k : Bool} {a : Addr} {xs ys : List V} (q : SqK X.K k H a xs) (r : SqK X.K k H a ys) : xs = ys := by
  cases k with
  | true => exact I.list_inj q r
  | false => exact I.tuple_inj q r
theorem drawsK {prog : Program} {w : World} {A : Around} (k : Bool) (hh : A.handled = none) (it l : Addr) (hne : l ≠ it) (items : Array Value) :
    Draws prog w A it [it, l] items.size (fun i v => items[i]? = some v) (fun i h => HpIter k h it l i ∧ HpSeq k h l items) := by
  cases k with
  | true => exact Draws.list hh it l hne items
  | false => exact Draws.tuple hh it l hne items
theorem beginsK (k : Bool) (l : Addr) (items : Array Value) : Begins (.ref l) (itObj k l) fun h => HpSeq k h l items := by
  cases k with
  | true => exact begins_list l items
  | false => exact begins_tuple l items
theorem HpIter.atK {k : Bool} {h h' : Heap} {i a : Addr} {n : Nat} (x : HpIter k h i a n) (q : ∀ o, h.get? i = some o → h'.get? i = some o) : HpIter k h' i a n := by
  cases k with
  | true => exact Heap.IsListIter.at x q
  | false => exact Heap.IsTupleIter.at x q
theorem HpIter.cell {k : Bool} {h : Heap} {i a : Addr} {n : Nat} (x : HpIter k h i a n) : ∃ o, h.get? i = some o ∧ ∀ v, o.data ≠ .cell v := by
  cases k with
  | true => obtain ⟨o, e, _, d⟩ := x; exact ⟨o, e, fun v q => by rw [d] at q; cases q⟩
  | false => obtain ⟨o, e, _, d⟩ := x; exact ⟨o, e, fun v q => by rw [d] at q; cases q⟩
theorem HpIter.begun {k : Bool} {h : Heap} {i a : Addr} (e : h.get? i = some (itObj k a)) : HpIter k h i a 0 := by
  cases k with
  | true => exact ⟨_, e, rfl, rfl⟩
  | false => exact ⟨_, e, rfl, rfl⟩
def Itz3 (K : PySem.W.Frag) (k1 k2 k3 : Bool) (a b c : Addr) : It where
  go i H := ∃ (xs ys zs : List V) (x y z : V), SqK K k1 H a xs ∧ SqK K k2 H b ys ∧ SqK K k3 H c zs ∧ xs[i]? = some x ∧ ys[i]? = some y ∧ zs[i]? = some z
  yld i H v H' := ∃ T x y z, v = .ref T ∧ H T = none ∧ H' = upd H T (.tup [x, y, z]) ∧ (∀ xs, SqK K k1 H a xs → xs[i]? = some x) ∧ (∀ ys, SqK K k2 H b ys → ys[i]? = some y) ∧ ∀ zs, SqK K k3 H c zs → zs[i]? = some z
  stop i H := ∃ xs ys zs : List V, SqK K k1 H a xs ∧ SqK K k2 H b ys ∧ SqK K k3 H c zs ∧ i ≤ xs.length ∧ i ≤ ys.length ∧ i ≤ zs.length ∧ (i = xs.length ∨ i = ys.length ∨ i = zs.length)
structure Z3At (k1 k2 k3 : Bool) (N a b c : Addr) (i : Nat) (h : Heap) : Prop where
  zip : IsZip h (N + 5) (N + 3) (N + 4) .none
  ins : IsTupOf3 h (N + 3) (.ref N) (.ref (N + 1)) (.ref (N + 2))
  out : ∃ x y z, IsTupOf3 h (N + 4) x y z
  it1 : HpIter k1 h N a i
  it2 : HpIter k2 h (N + 1) b i
  it3 : HpIter k3 h (N + 2) c i
theorem Z3At.cells {k1 k2 k3 : Bool} {N a b c : Addr} {i : Nat} {h : Heap} (st : Z3At k1 k2 k3 N a b c i h) {d : Addr} (hd : d ∈ [N + 5, N + 3, N + 4, N, N + 1, N + 2]) : ∃ o, h.get? d = some o ∧ ∀ v, o.data ≠ .cell v := by
  obtain ⟨hz, hI, ⟨x, y, z, hO⟩, h1, h2, h3⟩ := st
  simp only [List.mem_cons, List.not_mem_nil, or_false] at hd
  rcases hd with rfl | rfl | rfl | rfl | rfl | rfl
  · exact ⟨_, hz, fun v => nofun⟩
  · exact ⟨_, hI, fun v => nofun⟩
  · exact ⟨_, hO, fun v => nofun⟩
  · exact h1.cell
  · exact h2.cell
  · exact h3.cell
theorem vals_size {xs : List V} {us : List Value} (r : Vals xs us) : us.toArray.size = xs.length := by
  have := r.length
  simp only [List.size_toArray]; omega
theorem turn_zip3 {P : Program} {w : World} {K : PySem.W.Frag} {elts : List Expr} {kk : Nat} {tpos : Pos} {k1 k2 k3 : Bool} {N a b c : Addr} (la : a < N) (lb : b < N) (lc : c < N) :
    Turn P w K (.Tuple elts kk tpos) (Itz3 K k1 k2 k3 a b c) [N + 5, N + 3, N + 4, N, N + 1, N + 2] (N + 5) (Z3At k1 k2 k3 N a b c) where
  mem := List.mem_cons_self
  obj i h st c hc := st.cells hc
  keep i h h' st k := by
    obtain ⟨hz, hI, ⟨x, y, z, hO⟩, h1, h2, h3⟩ := st
    exact ⟨k _ (by simp) _ hz, k _ (by simp) _ hI, ⟨x, y, z, k _ (by simp) _ hO⟩, h1.atK fun o q => k _ (by simp) o q, h2.atK fun o q => k _ (by simp) o q, h3.atK fun o q => k _ (by simp) o q⟩
  item := by
    intro X hP hw hK hc i pins s σ H E I hf st hg
    subst hP hw hK
    have lcl : ∀ {c : Addr}, c ∈ [N + 5, N + 3, N + 4, N, N + 1, N + 2] → c < s.heap.objs.size := fun hm => let ⟨_, q, _⟩ := st.cells hm; Heap.lt_size q
    obtain ⟨hz, hI, ⟨x0, y0, z0, hO⟩, h1, h2, h3⟩ := st
    obtain ⟨xs, ys, zs, x, y, z, qx, qy, qz, hx, hy, hz'⟩ := hg
    obtain ⟨us, ru, pu, _⟩ := I.seqK qx
    obtain ⟨ws, rw', pw, _⟩ := I.seqK qy
    obtain ⟨ts, rt, pt, _⟩ := I.seqK qz
    have hh : X.A.in1.handled = none := I.ok.hd hc
    have S := zip_sep3 (N := N) (fp1 := [a]) (fp2 := [b]) (fp3 := [c]) (fun d hd => by rw [List.mem_singleton] at hd; subst hd; exact la) (fun d hd => by rw [List.mem_singleton] at hd; subst hd; exact lb) (fun d hd => by rw [List.mem_singleton] at hd; subst hd; exact lc)
    have nx : i < us.toArray.size := by rw [vals_size ru]; exact (List.getElem?_eq_some_iff.mp hx).1
    have ny : i < ws.toArray.size := by rw [vals_size rw']; exact (List.getElem?_eq_some_iff.mp hy).1
    have nz : i < ts.toArray.size := by rw [vals_size rt]; exact (List.getElem?_eq_some_iff.mp hz').1
    refine wpAny_pyNext_zipD3_item S (drawsK k1 hh N a (Nat.ne_of_lt la) us.toArray) (drawsK k2 hh (N + 1) b (Nat.ne_of_lt (Nat.lt_succ_of_lt lb)) ws.toArray) (drawsK k3 hh (N + 2) c (Nat.ne_of_lt (Nat.lt_succ_of_lt (Nat.lt_succ_of_lt lc))) ts.toArray) hz hI hO ⟨h1, pu⟩ ⟨h2, pw⟩ ⟨h3, pt⟩ nx ny nz
      fun x1 x2 x3 h' tk y1 y2 y3 z' O' s1 s2 s3 hT hsz hk => ?_
    obtain ⟨u1, eu1, r1⟩ := ru.get hx
    obtain ⟨u2, eu2, r2⟩ := rw'.get hy
    obtain ⟨u3, eu3, r3⟩ := rt.get hz'
    have e1 : x1 = u1 := Option.some.inj (y1.symm.trans (by simpa using eu1))
    have e2 : x2 = u2 := Option.some.inj (y2.symm.trans (by simpa using eu2))
    have e3 : x3 = u3 := Option.some.inj (y3.symm.trans (by simpa using eu3))
    subst e1 e2 e3
    have zlt : N + 5 < s.heap.objs.size := lcl (by simp)
    refine ⟨_, rfl, wpAny_letOwnedTupleGo_zip (s := { s with heap := h', toks := tk }) z' fun g gz sb => ?_⟩
    have gT : g.get? s.heap.objs.size = some { cls := .type "tuple", data := .seq #[x1, x2, x3] } := (sb.2 _ (Nat.ne_of_gt zlt)).trans hT
    have I1 : Inv X pins σ (upd H s.heap.objs.size (.tup [x, y, z])) { s with heap := g, toks := tk } :=
      I.turnedNew (ch := [N + 5, N + 3, N + 4, N, N + 1, N + 2]) (fun c o nc e => by
        simp only [List.mem_cons, List.not_mem_nil, or_false, not_or] at nc
        exact (sb.2 c nc.1).trans (hk c o nc.1 nc.2.2.1 nc.2.2.2.1 nc.2.2.2.2.1 nc.2.2.2.2.2 e)) hf (Nat.le_refl _) ⟨by show 3 ≤ sizeLine; decide, [x1, x2, x3], .cons r1 (.cons r2 (.cons r3 .nil)), ⟨_, gT, rfl, _, rfl⟩⟩
    refine ⟨.ref s.heap.objs.size, _, I1, rfl, ⟨_, x, y, z, rfl, I.hok.fresh (Nat.le_refl _), rfl, fun l hl => ?_, fun l hl => ?_, fun l hl => ?_⟩, ⟨gz, ?_, ⟨x1, x2, x3, ?_⟩, ?_, ?_, ?_⟩, fun c hm => ?_⟩
    · rw [I.seqK_inj hl qx]; exact hx
    · rw [I.seqK_inj hl qy]; exact hy
    · rw [I.seqK_inj hl qz]; exact hz'
    · exact (sb.2 _ S.TIz).trans (hk _ _ S.TIz S.TITO S.TIi1 S.TIi2 S.TIi3 hI)
    · exact (sb.2 _ S.TOz).trans O'
    · exact s1.1.atK fun o q => (sb.2 _ (Nat.ne_of_lt (Nat.lt_add_of_pos_right (by decide)))).trans q
    · exact s2.1.atK fun o q => (sb.2 _ (Nat.ne_of_lt (Nat.add_lt_add_left (show 1 < 5 by decide) N))).trans q
    · exact s3.1.atK fun o q => (sb.2 _ (Nat.ne_of_lt (Nat.add_lt_add_left (show 2 < 5 by decide) N))).trans q
    · rw [upd_ne (Nat.ne_of_lt (lcl hm))]
      exact (hf c hm).1
  done := by
    intro X hP hw hK hc i pins s σ H E I hf st hg
    subst hP hw hK
    obtain ⟨hz, hI, ⟨x0, y0, z0, hO⟩, h1, h2, h3⟩ := st
    obtain ⟨xs, ys, zs, qx, qy, qz, l1, l2, l3, hend⟩ := hg
    obtain ⟨us, ru, pu, _⟩ := I.seqK qx
    obtain ⟨ws, rw', pw, _⟩ := I.seqK qy
    obtain ⟨ts, rt, pt, _⟩ := I.seqK qz
    have hh : X.A.in1.handled = none := I.ok.hd hc
    have S := zip_sep3 (N := N) (fp1 := [a]) (fp2 := [b]) (fp3 := [c]) (fun d hd => by rw [List.mem_singleton] at hd; subst hd; exact la) (fun d hd => by rw [List.mem_singleton] at hd; subst hd; exact lb) (fun d hd => by rw [List.mem_singleton] at hd; subst hd; exact lc)
    refine wpAny_pyNext_zipD3_end S (drawsK k1 hh N a (Nat.ne_of_lt la) us.toArray) (drawsK k2 hh (N + 1) b (Nat.ne_of_lt (Nat.lt_succ_of_lt lb)) ws.toArray) (drawsK k3 hh (N + 2) c (Nat.ne_of_lt (Nat.lt_succ_of_lt (Nat.lt_succ_of_lt lc))) ts.toArray) hz hI hO ⟨h1, pu⟩ ⟨h2, pw⟩ ⟨h3, pt⟩
      (by rw [vals_size ru]; exact l1) (by rw [vals_size rw']; exact l2) (by rw [vals_size rt]; exact l3) (by rw [vals_size ru, vals_size rw', vals_size rt]; exact hend) fun h' tk hk => ⟨rfl, I.turnedL (ch := [N + 5, N + 3, N + 4, N, N + 1, N + 2]) (fun c o nc e => by
        simp only [List.mem_cons, List.not_mem_nil, or_false, not_or] at nc
        exact hk c o nc.1 nc.2.2.1 nc.2.2.2.1 nc.2.2.2.2.1 nc.2.2.2.2.2 e) hf⟩
  self A i s Q E st h := wpAny_pyIter_zip st.zip h
def iZip3 (K : PySem.W.Frag) (ta : TA) : TI := fun σ H R => ta σ H fun vs H1 => ∃ k1 k2 k3 a b c xs ys zs, vs = [.ref a, .ref b, .ref c] ∧ SqK K k1 H1 a xs ∧ SqK K k2 H1 b ys ∧ SqK K k3 H1 c zs ∧ R (Itz3 K k1 k2 k3 a b c) H1
theorem pi_zip3 {X : Cx} {e1 e2 e3 : Expr} {ta : TA} {p pos tpos : Pos} {elts : List Expr} {kk : Nat} (hg : Gl X "zip") (hm : X.mg "zip" = none) (ha : PA X [e1, e2, e3] ta)
    (hs : starEach [e1, e2, e3] X.env = (false, eval e1 X.env) :: starEach [e2, e3] X.env := by rfl) (hpl : (backTo pos (starEach [e2, e3] X.env)).any (·.1) = false := by rfl) :
    PI X (.Tuple elts kk tpos) (.Call (.Name "zip" p) [e1, e2, e3] [] pos) (iZip3 X.K ta) where
  run pins s σ H R I h := by
    refine Call_ (ld_blt I hg hm PyProof.Rows.boot_zip (PyProof.Rows.callWith_type1 (thn (ha.run pos pins s σ H _ I h) fun us s1 ⟨vs, H1, I1, r1, k1, k2, k3, a, b, c, xs, ys, zs, ev, qx, qy, qz, q⟩ => ?_) hs hpl))
    subst ev
    cases r1 with
    | cons ra rr =>
    cases rr with
    | cons rb rr =>
    cases rr with
    | cons rc rr =>
    cases rr
    cases ra
    cases rb
    cases rc
    obtain ⟨us, _, pu, la⟩ := I1.seqK qx
    obtain ⟨ws, _, pw, lb⟩ := I1.seqK qy
    obtain ⟨ts, _, pt, lc⟩ := I1.seqK qz
    refine zip_begins3 (beginsK k1 a us.toArray) (beginsK k2 b ws.toArray) (beginsK k3 c ts.toArray) pu pw pt fun h' hz hI hO h1 h2 h3 hsz hk => wpAny_pyIter_zip hz ?_
    refine ⟨s1.heap.objs.size + 5, [s1.heap.objs.size + 5, s1.heap.objs.size + 3, s1.heap.objs.size + 4, s1.heap.objs.size, s1.heap.objs.size + 1, s1.heap.objs.size + 2], _, _, H1, rfl, I1.kept (t' := s1.toks) hk, turn_zip3 la lb lc, ⟨hz, hI, ⟨_, _, _, hO⟩, HpIter.begun h1, HpIter.begun h2, HpIter.begun h3⟩, fun d hd => ?_, q⟩
    have hle : s1.heap.objs.size ≤ d := by
      simp only [List.mem_cons, List.not_mem_nil, or_false] at hd
      rcases hd with rfl | rfl | rfl | rfl | rfl | rfl <;> omega
    exact I1.fpOk hle (I1.hok.fresh hle)
/-- a loop over zip of three of one length -/
theorem for_zip3 {K : PySem.W.Frag} {k1 k2 k3 : Bool} {a b c : Addr} {xs ys zs : List V} {g : TG} {tb : TS} {D : Ends} {σ : St} {H : Hp} (hl : ys.length = xs.length) (hl2 : zs.length = xs.length) (Pv : Nat → St → Hp → Prop) (h0 : Pv 0 σ H) (hq : ∀ i σ H, Pv i σ H → SqK K k1 H a xs ∧ SqK K k2 H b ys ∧ SqK K k3 H c zs)
    (hs : ∀ i x y z T σ H, xs[i]? = some x → ys[i]? = some y → zs[i]? = some z → H T = none → Pv i σ H → g (.ref T) σ (upd H T (.tup [x, y, z])) fun σ2 H2 => tb { D with nx := Pv (i + 1), ct := Pv (i + 1), bk := D.nx } σ2 H2)
    (hd : ∀ σ H, Pv xs.length σ H → D.nx σ H) :
    ∃ W : Nat → Nat → St → Hp → Prop, (∃ m, W 0 m σ H) ∧ ∀ i m σ H, W i m σ H →
      ((Itz3 K k1 k2 k3 a b c).stop i H ∧ D.nx σ H) ∨ ((Itz3 K k1 k2 k3 a b c).go i H ∧ ∃ N : St → Hp → Prop, (∀ σ' H', N σ' H' → ∃ m', m' < m ∧ W (i + 1) m' σ' H') ∧ ∀ x H', (Itz3 K k1 k2 k3 a b c).yld i H x H' → g x σ H' fun σ2 H2 => tb { D with nx := N, ct := N, bk := D.nx } σ2 H2) := by
  refine ⟨fun i m σ H => m = xs.length - i ∧ i ≤ xs.length ∧ Pv i σ H, ⟨xs.length, by simp, Nat.zero_le _, h0⟩, ?_⟩
  rintro i m σ H ⟨rfl, hi, p⟩
  obtain ⟨qa, qb, qc⟩ := hq i σ H p
  by_cases hlt : i < xs.length
  · refine .inr ⟨⟨xs, ys, zs, _, _, _, qa, qb, qc, List.getElem?_eq_getElem hlt, List.getElem?_eq_getElem (by omega), List.getElem?_eq_getElem (by omega)⟩, Pv (i + 1), fun σ' H' p' => ⟨xs.length - (i + 1), by omega, rfl, hlt, p'⟩, fun v H' y => ?_⟩
    obtain ⟨T, x, y, z, rfl, hT, rfl, f1, f2, f3⟩ := y
    exact hs i x y z T σ H (f1 xs qa) (f2 ys qb) (f3 zs qc) hT p
  · have e : i = xs.length := by omega
    subst e
    exact .inl ⟨⟨xs, ys, zs, qa, qb, qc, Nat.le_refl _, by omega, by omega, .inl rfl⟩, hd σ H p⟩
end L2


set_option Elab.async false
set_option linter.all false
set_option maxRecDepth 100000
set_option maxHeartbeats 4000000
set_option autoImplicit false
namespace Hc
open PySem L2
/-- a list's item, to be changed -/
theorem get_list {X : Cx} : PGet X (rIxL X.K) := by
  intro pins s σ H o i ov iv Q I rx ry h
  obtain ⟨p, xs, i, z, rfl, rfl, hq, he, q⟩ := h
  cases rx
  obtain ⟨t, rfl⟩ := ry
  obtain ⟨its, r, pl, hz⟩ := I.list hq
  obtain ⟨j, h1, h2, h3, h4, h5⟩ := atI_get he
  obtain ⟨w, ew, rw'⟩ := r.get h2
  have hl := r.length
  have hn := line63
  have fin : EP X pins σ Q w s := ⟨z, H, I, rw', q⟩
  by_cases h0 : 0 ≤ i
  · have hj : i.toNat = j := by
      rw [PySem.seqIndex_of h0 h5] at h1
      exact Option.some.inj h1
    exact wpAny_getItem_list pl.isList h0 (by omega) (by rw [hj]; simpa using ew) fin
  · have hj : (i + (its.toArray.size : Int)).toNat = j := by
      rw [PySem.seqIndex_neg (by omega) h4] at h1
      rw [List.size_toArray, ← hl]
      exact Option.some.inj h1
    exact wpAny_getItem_list_neg pl.isList (by omega) (by rw [List.size_toArray] <;> omega) (by omega) (by rw [hj]; simpa using ew) fin
/-! ### passings, ranks -/
def hdI (q : List Int) : Int := q.getD 0 0
def pAt (k : Nat) (l : Lt) (r : List Int) (p : Nat) : List Int := [((l.1.getD p 0 : Nat) : Int), r.getD p 0, ((k : Nat) : Int), ((p : Nat) : Int)]
def pLt (k : Nat) (l : Lt) (r : List Int) (m : Nat) : List (List Int) := (List.range m).map (pAt k l r)
def pAll (ls : List Lt) (rows : List (List Int)) (m : Nat) : List (List Int) := (List.range m).flatMap fun k => pLt k (ls.getD k ([], 0)) (rows.getD k []) (ls.getD k ([], 0)).1.length
theorem fm_succ {α : Type} (f : Nat → List α) (n : Nat) : (List.range (n + 1)).flatMap f = (List.range n).flatMap f ++ f n := by
  rw [List.range_succ, List.flatMap_append]; simp
theorem pLt_succ (k : Nat) (l : Lt) (r : List Int) (m : Nat) : pLt k l r (m + 1) = pLt k l r m ++ [pAt k l r m] := by
  unfold pLt
  rw [List.range_succ, List.map_append]; rfl
theorem pAll_succ {ls : List Lt} {rows : List (List Int)} {k : Nat} {l : Lt} {r : List Int} (e1 : ls[k]? = some l) (e2 : rows[k]? = some r) : pAll ls rows (k + 1) = pAll ls rows k ++ pLt k l r l.1.length := by
  have h1 : ls.getD k ([], 0) = l := by rw [List.getD_eq_getElem?_getD, e1]; rfl
  have h2 : rows.getD k [] = r := by rw [List.getD_eq_getElem?_getD, e2]; rfl
  unfold pAll
  rw [fm_succ, h1, h2]
theorem mem_pLt {k : Nat} {l : Lt} {r : List Int} {m : Nat} {q : List Int} : q ∈ pLt k l r m ↔ ∃ p, p < m ∧ q = pAt k l r p := by
  unfold pLt
  rw [List.mem_map]
  exact ⟨fun ⟨p, h, e⟩ => ⟨p, List.mem_range.mp h, e.symm⟩, fun ⟨p, h, e⟩ => ⟨p, List.mem_range.mpr h, e.symm⟩⟩
theorem mem_pAll {ls : List Lt} {rows : List (List Int)} {m : Nat} {q : List Int} : q ∈ pAll ls rows m ↔ ∃ k p, k < m ∧ p < (ls.getD k ([], 0)).1.length ∧ q = pAt k (ls.getD k ([], 0)) (rows.getD k []) p := by
  unfold pAll
  rw [List.mem_flatMap]
  constructor
  · rintro ⟨k, hk, h⟩
    obtain ⟨p, hp, e⟩ := mem_pLt.mp h
    exact ⟨k, p, List.mem_range.mp hk, hp, e⟩
  · rintro ⟨k, p, hk, hp, e⟩
    exact ⟨k, List.mem_range.mpr hk, mem_pLt.mpr ⟨p, hp, e⟩⟩
theorem pAt_inj {k k' : Nat} {l l' : Lt} {r r' : List Int} {p p' : Nat} (h : pAt k l r p = pAt k' l' r' p') : k = k' ∧ p = p' := by
  unfold pAt at h
  simp only [List.cons.injEq, and_true] at h
  exact ⟨by omega, by omega⟩
theorem pLt_nodup (k : Nat) (l : Lt) (r : List Int) : ∀ m, (pLt k l r m).Nodup
  | 0 => List.nodup_nil
  | m + 1 => by
    rw [pLt_succ, List.nodup_append]
    refine ⟨pLt_nodup k l r m, List.nodup_cons.mpr ⟨List.not_mem_nil, List.nodup_nil⟩, fun a ha b hb e => ?_⟩
    obtain ⟨p, hp, rfl⟩ := mem_pLt.mp ha
    rw [List.mem_singleton] at hb
    have := (pAt_inj (e.trans hb)).2
    omega
theorem pAll_nodup (ls : List Lt) (rows : List (List Int)) : ∀ m, (pAll ls rows m).Nodup
  | 0 => List.nodup_nil
  | m + 1 => by
    unfold pAll
    rw [fm_succ, List.nodup_append]
    refine ⟨pAll_nodup ls rows m, pLt_nodup _ _ _ _, fun a ha b hb e => ?_⟩
    obtain ⟨k, p, hk, hp, rfl⟩ := mem_pAll.mp ha
    obtain ⟨p', _, rfl⟩ := mem_pLt.mp hb
    have := (pAt_inj e).1
    omega
/-- how many rows of one road stand before a row -/
def rk (S : List (List Int)) (q : List Int) : Nat := ((S.take (S.idxOf q)).filter fun x => decide (hdI x = hdI q)).length
def cnt (S : List (List Int)) (i : Nat) (r : Int) : Nat := ((S.take i).filter fun x => decide (hdI x = r)).length
theorem nodup_inj {S : List (List Int)} (nd : S.Nodup) {i j : Nat} (hi : i < S.length) (hj : j < S.length) (e : S[i] = S[j]) : i = j := by
  have h := List.pairwise_iff_getElem.mp nd
  rcases Nat.lt_trichotomy i j with g | g | g
  · exact absurd e (h i j hi hj g)
  · exact g
  · exact absurd e.symm (h j i hj hi g)
theorem idx_ne {a b : List Int} {S : List (List Int)} (h : ¬ a = b) : (a :: S).idxOf b = S.idxOf b + 1 := by
  have g : (a == b) = false := by simpa using h
  rw [List.idxOf_cons, g]; rfl
theorem idx_at {S : List (List Int)} (nd : S.Nodup) {i : Nat} {q : List Int} (e : S[i]? = some q) : S.idxOf q = i := by
  obtain ⟨hi, e⟩ := List.getElem?_eq_some_iff.mp e
  have hm : q ∈ S := e ▸ List.getElem_mem hi
  have hj := List.idxOf_lt_length_iff.mpr hm
  have ej : S[S.idxOf q] = q := List.getElem_idxOf hj
  exact (nodup_inj nd hj hi) (ej.trans e.symm)
theorem rk_at {S : List (List Int)} (nd : S.Nodup) {i : Nat} {q : List Int} (e : S[i]? = some q) : rk S q = cnt S i (hdI q) := by
  unfold rk cnt
  rw [idx_at nd e]
theorem cnt_succ {S : List (List Int)} {i : Nat} {q : List Int} (e : S[i]? = some q) (r : Int) : cnt S (i + 1) r = cnt S i r + if hdI q = r then 1 else 0 := by
  unfold cnt
  rw [take_more e, List.filter_append, List.length_append]
  by_cases h : hdI q = r
  · rw [if_pos h, List.filter_cons_of_pos (by exact decide_eq_true h)]; rfl
  · rw [if_neg h, List.filter_cons_of_neg (by rw [decide_eq_false h]; decide)]; rfl
theorem cnt_le (S : List (List Int)) (i : Nat) (r : Int) : cnt S i r ≤ S.length := by
  unfold cnt
  refine Nat.le_trans (List.length_filter_le _ _) ?_
  rw [List.length_take]; omega
theorem rk_le (S : List (List Int)) (q : List Int) : rk S q ≤ S.length := by
  refine Nat.le_trans (List.length_filter_le _ _) ?_
  rw [List.length_take]; omega
/-- the rows of one road, without the road -/
def tAt (rd : Int) (k : Nat) (l : Lt) (r : List Int) (p : Nat) : List (List Int) := if ((l.1.getD p 0 : Nat) : Int) = rd then [[r.getD p 0, ((k : Nat) : Int), ((p : Nat) : Int)]] else []
def tLt (rd : Int) (k : Nat) (l : Lt) (r : List Int) (m : Nat) : List (List Int) := (List.range m).flatMap (tAt rd k l r)
def tAll (rd : Int) (ls : List Lt) (rows : List (List Int)) (m : Nat) : List (List Int) := (List.range m).flatMap fun k => tLt rd k (ls.getD k ([], 0)) (rows.getD k []) (ls.getD k ([], 0)).1.length
theorem tLt_succ (rd : Int) (k : Nat) (l : Lt) (r : List Int) (m : Nat) : tLt rd k l r (m + 1) = tLt rd k l r m ++ tAt rd k l r m := fm_succ _ _
theorem tAll_succ {rd : Int} {ls : List Lt} {rows : List (List Int)} {k : Nat} {l : Lt} {r : List Int} (e1 : ls[k]? = some l) (e2 : rows[k]? = some r) : tAll rd ls rows (k + 1) = tAll rd ls rows k ++ tLt rd k l r l.1.length := by
  have h1 : ls.getD k ([], 0) = l := by rw [List.getD_eq_getElem?_getD, e1]; rfl
  have h2 : rows.getD k [] = r := by rw [List.getD_eq_getElem?_getD, e2]; rfl
  unfold tAll
  rw [fm_succ, h1, h2]
def ofRoad (rd : Int) (S : List (List Int)) : List (List Int) := (S.filter fun x => decide (hdI x = rd)).map List.tail
theorem ofRoad_app (rd : Int) (S R : List (List Int)) : ofRoad rd (S ++ R) = ofRoad rd S ++ ofRoad rd R := by
  unfold ofRoad
  rw [List.filter_append, List.map_append]
theorem tLt_of (rd : Int) (k : Nat) (l : Lt) (r : List Int) : ∀ m, tLt rd k l r m = ofRoad rd (pLt k l r m)
  | 0 => rfl
  | m + 1 => by
    rw [tLt_succ, pLt_succ, ofRoad_app, tLt_of rd k l r m]
    congr 1
    unfold tAt ofRoad
    by_cases h : ((l.1.getD m 0 : Nat) : Int) = rd
    · rw [if_pos h, List.filter_cons_of_pos (by exact decide_eq_true h)]; rfl
    · rw [if_neg h, List.filter_cons_of_neg (by show ¬ decide (((l.1.getD m 0 : Nat) : Int) = rd) = true; rw [decide_eq_false h]; decide)]; rfl
theorem tAll_of (rd : Int) (ls : List Lt) (rows : List (List Int)) : ∀ m, tAll rd ls rows m = ofRoad rd (pAll ls rows m)
  | 0 => rfl
  | m + 1 => by
    have ih := tAll_of rd ls rows m
    unfold tAll pAll at ih ⊢
    rw [fm_succ, fm_succ, ofRoad_app, ih, tLt_of]
theorem idx_road {q : List Int} : ∀ {S : List (List Int)}, (∀ x ∈ S, hdI x = hdI q → x.tail = q.tail → x = q) → q ∈ S → (ofRoad (hdI q) S).idxOf q.tail = rk S q
  | [], _, h => nomatch h
  | x :: S, inj, h => by
    by_cases e : x = q
    · subst e
      unfold ofRoad rk
      rw [List.filter_cons_of_pos (by exact decide_eq_true rfl), List.map_cons, List.idxOf_cons_self, List.idxOf_cons_self]; rfl
    · have hm : q ∈ S := by
        rcases List.mem_cons.mp h with h | h
        · exact absurd h.symm e
        · exact h
      have ih := idx_road (S := S) (fun y hy => inj y (List.mem_cons_of_mem _ hy)) hm
      unfold ofRoad rk at ih ⊢
      rw [idx_ne e, List.take_succ_cons]
      by_cases g : hdI x = hdI q
      · rw [List.filter_cons_of_pos (by exact decide_eq_true g), List.filter_cons_of_pos (by exact decide_eq_true g), List.map_cons, List.length_cons, idx_ne (fun z => e (inj x (List.mem_cons_self ..) g z)), ih]
      · rw [List.filter_cons_of_neg (by rw [decide_eq_false g]; decide), List.filter_cons_of_neg (by rw [decide_eq_false g]; decide), ih]
theorem SrtOf_road {ls : List Lt} {rows : List (List Int)} {m : Nat} {S : List (List Int)} (h1 : S.Perm (pAll ls rows m)) (h2 : S.Pairwise fun x y => Pl.lexI y x = false) (rd : Int) :
    (ofRoad rd S).Perm (tAll rd ls rows m) ∧ (ofRoad rd S).Pairwise fun x y => Pl.lexI y x = false := by
  refine ⟨?_, ?_⟩
  · rw [tAll_of]
    exact (h1.filter _).map _
  · unfold ofRoad
    rw [List.pairwise_map]
    refine List.Pairwise.imp_of_mem ?_ (h2.filter _)
    intro x y hx hy h
    obtain ⟨hx1, hx2⟩ := List.mem_filter.mp hx
    obtain ⟨hy1, hy2⟩ := List.mem_filter.mp hy
    obtain ⟨k, p, _, _, rfl⟩ := mem_pAll.mp (h1.mem_iff.mp hx1)
    obtain ⟨k', p', _, _, rfl⟩ := mem_pAll.mp (h1.mem_iff.mp hy1)
    have e1 := of_decide_eq_true hx2
    have e2 := of_decide_eq_true hy2
    have e : hdI (pAt k' (ls.getD k' ([], 0)) (rows.getD k' []) p') = hdI (pAt k (ls.getD k ([], 0)) (rows.getD k []) p) := e2.trans e1.symm
    have h' : (if hdI (pAt k' (ls.getD k' ([], 0)) (rows.getD k' []) p') = hdI (pAt k (ls.getD k ([], 0)) (rows.getD k []) p) then Pl.lexI (pAt k' (ls.getD k' ([], 0)) (rows.getD k' []) p').tail (pAt k (ls.getD k ([], 0)) (rows.getD k []) p).tail else _) = false := h
    rw [if_pos e] at h'
    exact h'
theorem road_inj {ls : List Lt} {rows : List (List Int)} {m : Nat} {S : List (List Int)} (h1 : S.Perm (pAll ls rows m)) {q : List Int} (hq : q ∈ S) : ∀ x ∈ S, hdI x = hdI q → x.tail = q.tail → x = q := fun x hx e1 e2 => by
  obtain ⟨k, p, _, _, rfl⟩ := mem_pAll.mp (h1.mem_iff.mp hx)
  obtain ⟨k', p', _, _, rfl⟩ := mem_pAll.mp (h1.mem_iff.mp hq)
  have e1' : ((((ls.getD k ([], 0)).1.getD p 0 : Nat)) : Int) = (((ls.getD k' ([], 0)).1.getD p' 0 : Nat) : Int) := e1
  unfold pAt at e2 ⊢
  rw [e1']
  exact congrArg _ e2
/-- how the data of rows differ -/
theorem eqv_ints : ∀ p q : List Int, PyData.eqvAll (p.map PyData.int) (q.map PyData.int) = decide (p = q)
  | [], [] => by rw [decide_eq_true rfl]; simp [PyData.eqvAll]
  | [], _ :: _ => by rw [decide_eq_false (by simp)]; simp [PyData.eqvAll]
  | _ :: _, [] => by rw [decide_eq_false (by simp)]; simp [PyData.eqvAll]
  | x :: p, y :: q => by
    have ih := eqv_ints p q
    have e : PyData.eqv (.int x) (.int y) = decide (x = y) := by
      by_cases g : x = y
      · subst g; rw [decide_eq_true rfl]; simp [PyData.eqv]
      · rw [decide_eq_false g]; simpa [PyData.eqv] using g
    rw [List.map_cons, List.map_cons]
    simp only [PyData.eqvAll]
    rw [ih, e]
    by_cases g : x = y
    · subst g
      by_cases g2 : p = q
      · subst g2; simp
      · rw [decide_eq_false g2, decide_eq_false (fun z => g2 (List.cons.inj z).2), Bool.and_false]
    · rw [decide_eq_false g, decide_eq_false (fun z => g (List.cons.inj z).1), Bool.false_and]
end Hc


set_option Elab.async false
set_option linter.all false
set_option maxRecDepth 100000
set_option maxHeartbeats 1000000
set_option autoImplicit false
namespace L2
open PySem PySem.Spec PyProof.Rows
end L2


set_option Elab.async false
set_option linter.all false
set_option maxRecDepth 100000
set_option maxHeartbeats 4000000
set_option autoImplicit false
namespace Hc
open PySem L2
/-- all but what stands at A -/
def Msk (A : Addr) (H : Hp) : Hp := fun b => if b = A then none else H b
theorem Msk.inv {A : Addr} {H : Hp} {b : Addr} {o : HO} (e : Msk A H b = some o) : b ≠ A ∧ H b = some o := by
  unfold Msk at e
  by_cases q : b = A
  · rw [if_pos q] at e; cases e
  · rw [if_neg q] at e; exact ⟨q, e⟩
theorem Msk.mk {A : Addr} {H : Hp} {b : Addr} {o : HO} (q : b ≠ A) (e : H b = some o) : Msk A H b = some o := by
  unfold Msk
  rw [if_neg q]; exact e
theorem Msk.same (A : Addr) (H : Hp) : Same (Msk A H) H := fun b o e => (Msk.inv e).2
theorem Msk.upd {A : Addr} {H H' : Hp} {o : HO} (s : Same (Msk A H) H') : Same (Msk A H) (Msk A (L2.upd H' A o)) := fun b u e => by
  have q := (Msk.inv e).1
  refine Msk.mk q ?_
  rw [upd_ne q]
  exact s _ _ e
theorem Msk.mono {A : Addr} {H H' : Hp} (s : Same H H') : Same (Msk A H) (Msk A H') := fun b u e => Msk.mk (Msk.inv e).1 (s _ _ (Msk.inv e).2)
theorem Msk.of {A : Addr} {H H' : Hp} (hA : H A = none) (s : Same H H') : Same H (Msk A H') := fun b u e => Msk.mk (ne_of_none e hA) (s _ _ e)
theorem Msk.upd' {A : Addr} {H H' : Hp} {o : HO} (s : Same H (Msk A H')) : Same H (Msk A (L2.upd H' A o)) := fun b u e => by
  have q := Msk.inv (s _ _ e)
  refine Msk.mk q.1 ?_
  rw [upd_ne q.1]
  exact q.2
theorem units65 {k : Nat} {A : Around} (r : Room (k + 1) A) : A.units + 65 < cLine := by have := r.un; omega
theorem atI_end {xs : List V} (h : 0 < xs.length) : atI xs (-1) = xs[xs.length - 1]? := by
  unfold atI
  have : ixN xs.length (-1) = some (xs.length - 1) := by
    unfold ixN
    rw [if_neg (by decide), if_pos (by omega)]
    congr 1
    omega
  rw [this]; rfl
theorem flat_nat (ns : List Nat) : (ns.map fun j => V.int (j : Nat)).all flatV = true := by
  rw [List.all_eq_true]
  intro x hx
  obtain ⟨j, _, rfl⟩ := List.mem_map.mp hx
  rfl
theorem in_nat (r : Nat) : ∀ ns : List Nat, inV (.int (r : Nat)) (ns.map fun j => V.int (j : Nat)) = decide (r ∈ ns)
  | [] => by simp [inV]
  | n :: ns => by
    have ih := in_nat r ns
    have e : inV (.int (r : Nat)) ((n :: ns).map fun j => V.int (j : Nat)) = (((n : Int) == (r : Int)) || inV (.int (r : Nat)) (ns.map fun j => V.int (j : Nat))) := rfl
    rw [e, ih]
    by_cases h : r = n
    · subst h; simp
    · have h2 : ¬ ((n : Int) = (r : Int)) := by omega
      have h3 : ((n : Int) == (r : Int)) = false := by simpa using h2
      rw [h3, Bool.false_or]
      by_cases h4 : r ∈ ns
      · rw [decide_eq_true h4, decide_eq_true (List.mem_cons_of_mem _ h4)]
      · rw [decide_eq_false h4, decide_eq_false (fun q => by rcases List.mem_cons.mp q with q | q; exact h q; exact h4 q)]
def lastOf (r : List Int) : Int := r.getD (r.length - 1) 0
def isStrD : D → Bool | .str _ => true | _ => false
theorem kitS (d : D) : kitB (tyOf d) "str" = some (isStrD d) := by
  cases d with
  | non => show kitB "NoneType" "str" = some false; decide +kernel
  | bl b => show kitB "bool" "str" = some false; decide +kernel
  | int i => show kitB "int" "str" = some false; decide +kernel
  | str x => show kitB "str" "str" = some true; decide +kernel
  | tup ds => show kitB "tuple" "str" = some false; decide +kernel
  | lst => show kitB "list" "str" = some false; decide +kernel
  | dct => show kitB "dict" "str" = some false; decide +kernel
def isSortD : D → Bool
  | .str x => inV (V.str x) [.str "hours", .str "turns"]
  | _ => false
/-- the items that are told -/
def toldL (L way : List Nat) (is : List Int) : List V := (way.zip is).map fun p => if p.1 ∈ L then V.int p.2 else .non
/-- a card at x -/
def CdOne (H : Hp) (h : Addr) (x : V) (L : List Nat) (l : Lt) (row is : List Int) : Prop := ∃ t w u, x = .ref t ∧ H t = some (.tup [w, .int l.2, .int (lastOf row), .ref u]) ∧ Rp H h w (nD l.1) ∧ H u = some (.tup (toldL L l.1 is))
theorem CdOne.same {H H' : Hp} {h : Addr} {x : V} {L : List Nat} {l : Lt} {row is : List Int} (c : CdOne H h x L l row is) (s : Same H H') : CdOne H' h x L l row is := by
  obtain ⟨t, w, u, e, e1, r, e2⟩ := c
  exact ⟨t, w, u, e, s _ _ e1, r.same s, s _ _ e2⟩
def CdAt (H : Hp) (h : Addr) (v : V) (L : List Nat) (ls : List Lt) (rows its : List (List Int)) : Prop := ∃ q xs, v = .ref q ∧ H q = some (.tup xs) ∧ xs.length = ls.length ∧
  ∀ (k : Nat) (l : Lt) (row is : List Int), ls[k]? = some l → rows[k]? = some row → its[k]? = some is → ∃ x, xs[k]? = some x ∧ CdOne H h x L l row is
theorem CdAt.same {H H' : Hp} {h : Addr} {v : V} {L : List Nat} {ls : List Lt} {rows its : List (List Int)} (c : CdAt H h v L ls rows its) (s : Same H H') : CdAt H' h v L ls rows its := by
  obtain ⟨q, xs, e, e1, l1, f⟩ := c
  refine ⟨q, xs, e, s _ _ e1, l1, fun k l row is a b d => ?_⟩
  obtain ⟨x, g1, g2⟩ := f k l row is a b d
  exact ⟨x, g1, g2.same s⟩
/-- rows of ints in a list -/
def RsAt (H : Hp) (a : Addr) (L : List (Addr × List Int)) : Prop := H a = some (.lst (L.map fun p => V.ref p.1)) ∧ ∀ p ∈ L, H p.1 = some (.tup (p.2.map V.int)) ∧ p.2 ≠ []
theorem RsAt.same {H H' : Hp} {a : Addr} {L : List (Addr × List Int)} (x : RsAt H a L) (s : Same H H') : RsAt H' a L := ⟨s _ _ x.1, fun p hp => ⟨s _ _ (x.2 p hp).1, (x.2 p hp).2⟩⟩
theorem RsAt.nil {H : Hp} {a : Addr} (e : H a = some (.lst [])) : RsAt H a [] := ⟨e, fun _ z => nomatch z⟩
theorem RsAt.snoc {H : Hp} {a u : Addr} {L : List (Addr × List Int)} {p : List Int} (x : RsAt H a L) (hu : H u = some (.tup (p.map V.int))) (hp : p ≠ []) : RsAt (upd H a (.lst ((L.map fun p => V.ref p.1) ++ [.ref u]))) a (L ++ [(u, p)]) := by
  have nt : ∀ {b : Addr} {ys : List V}, H b = some (.tup ys) → b ≠ a := fun e z => by subst z; rw [x.1] at e; cases e
  refine ⟨by rw [upd_same, List.map_append]; rfl, fun q hq => ?_⟩
  rcases List.mem_append.mp hq with hq | hq
  · obtain ⟨e, n⟩ := x.2 q hq
    exact ⟨by rw [upd_ne (nt e)]; exact e, n⟩
  · rw [List.mem_singleton] at hq
    subst hq
    exact ⟨by rw [upd_ne (nt hu)]; exact hu, hp⟩
def ival : V → Int | .int i => i | _ => 0
def aOf : V → Addr | .ref t => t | _ => 0
def kOf (H : Hp) (x : V) : List Int := match H (aOf x) with | some (.tup xs) => xs.map ival | _ => []
theorem kOf_of {H : Hp} {t : Addr} {p : List Int} (e : H t = some (.tup (p.map V.int))) : kOf H (.ref t) = p := by
  unfold kOf
  show (match H t with | some (.tup xs) => xs.map ival | _ => []) = p
  rw [e]
  show (p.map V.int).map ival = p
  rw [List.map_map]
  exact List.map_id' p
/-- the rows of one sorted are the other -/
def SrtOf (A B : List (List Int)) : Prop := B.Perm A ∧ B.Pairwise fun x y => Pl.lexI y x = false
theorem lexI_eq : ∀ x y : List Int, Pl.lexI x y = false → Pl.lexI y x = false → x = y
  | [], [], _, _ => rfl
  | [], _ :: _, h, _ => by cases h
  | _ :: _, [], _, h => by cases h
  | a :: as, b :: bs, h1, h2 => by
    rw [Pl.lexI_cons] at h1 h2
    by_cases e : a = b
    · rw [if_pos e] at h1
      rw [if_pos e.symm] at h2
      rw [e, lexI_eq as bs h1 h2]
    · rw [if_neg e] at h1
      rw [if_neg (Ne.symm e)] at h2
      have := of_decide_eq_false h1
      have := of_decide_eq_false h2
      omega
theorem SrtOf.uniq {A B C : List (List Int)} (x : SrtOf A B) (y : SrtOf A C) : B = C :=
  List.Perm.eq_of_pairwise (fun a b _ _ h1 h2 => lexI_eq a b h2 h1) x.2 y.2 (x.1.trans y.1.symm)
theorem sorted_rs {K : PySem.W.Frag} {H : Hp} {a : Addr} {L : List (Addr × List Int)} {Q : VK} (x : RsAt H a L) (k : ∀ p H' L', Same H H' → H p = none → RsAt H' p L' → SrtOf (L.map (·.2)) (L'.map (·.2)) → Q (.ref p) H') : rSortedR K [.ref a] H Q := by
  refine ⟨a, _, kOf H, rfl, SqL.of x.1, fun v hv => ?_, fun ys p h1 h2 hp => ?_⟩
  · obtain ⟨q, hq, rfl⟩ := List.mem_map.mp hv
    obtain ⟨e1, e2⟩ := x.2 q hq
    rw [kOf_of e1]
    match hq2 : q.2, e2 with
    | n0 :: ns, _ => exact ⟨q.1, n0, ns, rfl, by rw [← hq2]; exact e1, rfl⟩
    | [], z => exact absurd rfl z
  · have sp : Same H (upd H p (.lst ys)) := same_upd hp
    have hm : ∀ y ∈ ys, ∃ q ∈ L, y = V.ref q.1 := fun y hy => by
      obtain ⟨q, hq, e⟩ := List.mem_map.mp (h2.perm.mem_iff.mp hy)
      exact ⟨q, hq, e.symm⟩
    have ex : (ys.map fun y => (aOf y, kOf H y)).map (·.2) = ys.map (kOf H) := by rw [List.map_map]; rfl
    refine k p _ (ys.map fun y => (aOf y, kOf H y)) sp hp ⟨?_, fun z hz => ?_⟩ ⟨?_, ?_⟩
    · rw [upd_same, List.map_map]
      congr 2
      refine (List.map_id' ys).symm.trans (List.map_congr_left fun y hy => ?_)
      obtain ⟨q, _, rfl⟩ := hm y hy
      rfl
    · obtain ⟨y, hy, rfl⟩ := List.mem_map.mp hz
      obtain ⟨q, hq, rfl⟩ := hm y hy
      obtain ⟨e1, e2⟩ := x.2 q hq
      show upd H p _ q.1 = some (.tup ((kOf H (.ref q.1)).map V.int)) ∧ kOf H (.ref q.1) ≠ []
      rw [kOf_of e1]
      exact ⟨sp _ _ e1, e2⟩
    · rw [ex]
      have := h2.perm.map (kOf H)
      rw [List.map_map] at this
      refine this.trans (List.Perm.of_eq (List.map_congr_left fun q hq => ?_))
      exact kOf_of (x.2 q hq).1
    · rw [ex, List.pairwise_map]
      exact h1
/-- all but what stands in L -/
def MsL (L : List Addr) (H : Hp) : Hp := fun b => if b ∈ L then none else H b
theorem MsL.inv {L : List Addr} {H : Hp} {b : Addr} {o : HO} (e : MsL L H b = some o) : b ∉ L ∧ H b = some o := by
  unfold MsL at e
  by_cases q : b ∈ L
  · rw [if_pos q] at e; cases e
  · rw [if_neg q] at e; exact ⟨q, e⟩
theorem MsL.mk {L : List Addr} {H : Hp} {b : Addr} {o : HO} (q : b ∉ L) (e : H b = some o) : MsL L H b = some o := by
  unfold MsL
  rw [if_neg q]; exact e
/-- the grid of turns so far -/
def gRow (S : List (List Int)) (i k : Nat) (l : Lt) (r : List Int) : List V := (List.range l.1.length).map fun p => V.int ((if S.idxOf (pAt k l r p) < i then rk S (pAt k l r p) else 0 : Nat) : Int)
theorem gRow_zero (S : List (List Int)) (k : Nat) (l : Lt) (r : List Int) : gRow S 0 k l r = (List.range l.1.length).map fun _ => V.int 0 := by
  unfold gRow
  exact List.map_congr_left fun p _ => by rw [if_neg (Nat.not_lt_zero _)]; rfl
theorem gRow_len (S : List (List Int)) (i k : Nat) (l : Lt) (r : List Int) : (gRow S i k l r).length = l.1.length := by
  unfold gRow
  rw [List.length_map, List.length_range]
theorem gRow_same {S : List (List Int)} {i k k0 p0 : Nat} {l l0 : Lt} {r r0 : List Int} (e : S[i]? = some (pAt k0 l0 r0 p0)) (n : k ≠ k0) : gRow S (i + 1) k l r = gRow S i k l r := by
  unfold gRow
  refine List.map_congr_left fun p _ => ?_
  have hne : S.idxOf (pAt k l r p) ≠ i := fun z => by
    have hi : i < S.length := (List.getElem?_eq_some_iff.mp e).1
    have hm : S[S.idxOf (pAt k l r p)]'(by omega) = pAt k l r p := List.getElem_idxOf _
    have : S[i]? = some (pAt k l r p) := by
      rw [← z, List.getElem?_eq_getElem (by omega), hm]
    rw [e] at this
    exact n (pAt_inj (Option.some.inj this)).1.symm
  by_cases g : S.idxOf (pAt k l r p) < i
  · rw [if_pos g, if_pos (by omega)]
  · rw [if_neg g, if_neg (by omega)]
theorem gRow_set {S : List (List Int)} (nd : S.Nodup) {i k p0 : Nat} {l : Lt} {r : List Int} (e : S[i]? = some (pAt k l r p0)) (hp : p0 < l.1.length) : (gRow S i k l r).set p0 (V.int ((cnt S i ((l.1.getD p0 0 : Nat) : Int) : Nat) : Int)) = gRow S (i + 1) k l r := by
  refine List.ext_getElem (by rw [List.length_set, gRow_len, gRow_len]) fun p h1 h2 => ?_
  rw [gRow_len] at h2
  rw [List.getElem_set]
  have e0 : ∀ j, (gRow S j k l r)[p]'(by rw [gRow_len]; exact h2) = V.int ((if S.idxOf (pAt k l r p) < j then rk S (pAt k l r p) else 0 : Nat) : Int) := fun j => by
    unfold gRow
    rw [List.getElem_map, List.getElem_range]
  rw [e0 (i + 1)]
  by_cases g : p0 = p
  · subst g
    rw [if_pos rfl, idx_at nd e, if_pos (Nat.lt_succ_self i), rk_at nd e]; rfl
  · rw [if_neg g, e0 i]
    have hne : S.idxOf (pAt k l r p) ≠ i := fun z => by
      have hi : i < S.length := (List.getElem?_eq_some_iff.mp e).1
      have hm : S[S.idxOf (pAt k l r p)]'(by omega) = pAt k l r p := List.getElem_idxOf _
      have : S[i]? = some (pAt k l r p) := by
        rw [← z, List.getElem?_eq_getElem (by omega), hm]
      rw [e] at this
      exact g (pAt_inj (Option.some.inj this)).2
    by_cases g2 : S.idxOf (pAt k l r p) < i
    · rw [if_pos g2, if_pos (by omega)]
    · rw [if_neg g2, if_neg (by omega)]
def dRow (S : List (List Int)) (i m : Nat) : List V := (List.range m).map fun r => V.int ((cnt S i ((r : Nat) : Int) : Nat) : Int)
theorem dRow_len (S : List (List Int)) (i m : Nat) : (dRow S i m).length = m := by
  unfold dRow
  rw [List.length_map, List.length_range]
theorem dRow_zero (S : List (List Int)) (m : Nat) : dRow S 0 m = (List.range m).map fun _ => V.int 0 := by
  unfold dRow
  exact List.map_congr_left fun p _ => by show V.int ((cnt S 0 p : Nat) : Int) = _; unfold cnt; rfl
theorem dRow_at {S : List (List Int)} {i m r : Nat} (h : r < m) : (dRow S i m)[r]? = some (V.int ((cnt S i ((r : Nat) : Int) : Nat) : Int)) := by
  unfold dRow
  rw [List.getElem?_map, List.getElem?_range h]; rfl
theorem dRow_set {S : List (List Int)} {i m r0 : Nat} {q : List Int} (e : S[i]? = some q) (h : hdI q = ((r0 : Nat) : Int)) : (dRow S i m).set r0 (V.int (((cnt S i ((r0 : Nat) : Int) : Nat) : Int) + 1)) = dRow S (i + 1) m := by
  refine List.ext_getElem (by rw [List.length_set, dRow_len, dRow_len]) fun p h1 h2 => ?_
  rw [dRow_len] at h2
  rw [List.getElem_set]
  have e0 : ∀ j, (dRow S j m)[p]'(by rw [dRow_len]; exact h2) = V.int ((cnt S j ((p : Nat) : Int) : Nat) : Int) := fun j => by
    unfold dRow
    rw [List.getElem_map, List.getElem_range]
  rw [e0 (i + 1), cnt_succ e, h]
  by_cases g : r0 = p
  · subst g
    rw [if_pos rfl, if_pos rfl]; rfl
  · rw [if_neg g, e0 i, if_neg (by omega)]; rfl
/-- the final items -/
def itsOf (S : List (List Int)) (ls : List Lt) (rows : List (List Int)) : List (List Int) := (List.range ls.length).map fun k => (List.range (ls.getD k ([], 0)).1.length).map fun p => ((rk S (pAt k (ls.getD k ([], 0)) (rows.getD k []) p) : Nat) : Int)
theorem itsOf_len (S : List (List Int)) (ls : List Lt) (rows : List (List Int)) : (itsOf S ls rows).length = ls.length := by
  unfold itsOf
  rw [List.length_map, List.length_range]
theorem itsOf_at {S : List (List Int)} {ls : List Lt} {rows : List (List Int)} {k : Nat} {l : Lt} {r : List Int} (e1 : ls[k]? = some l) (e2 : rows[k]? = some r) : (itsOf S ls rows)[k]? = some ((List.range l.1.length).map fun p => ((rk S (pAt k l r p) : Nat) : Int)) := by
  have h1 : ls.getD k ([], 0) = l := by rw [List.getD_eq_getElem?_getD, e1]; rfl
  have h2 : rows.getD k [] = r := by rw [List.getD_eq_getElem?_getD, e2]; rfl
  unfold itsOf
  rw [List.getElem?_map, List.getElem?_range (List.getElem?_eq_some_iff.mp e1).1]
  show some ((List.range (ls.getD k ([], 0)).1.length).map fun p => ((rk S (pAt k (ls.getD k ([], 0)) (rows.getD k []) p) : Nat) : Int)) = _
  rw [h1, h2]
theorem gRow_end {S : List (List Int)} {ls : List Lt} {rows : List (List Int)} (h1 : S.Perm (pAll ls rows ls.length)) {k : Nat} {l : Lt} {r : List Int} (e1 : ls[k]? = some l) (e2 : rows[k]? = some r) : gRow S S.length k l r = ((List.range l.1.length).map fun p => ((rk S (pAt k l r p) : Nat) : Int)).map V.int := by
  unfold gRow
  rw [List.map_map]
  refine List.map_congr_left fun p hp => ?_
  have hm : pAt k l r p ∈ S := h1.mem_iff.mpr (mem_pAll.mpr ⟨k, p, (List.getElem?_eq_some_iff.mp e1).1, by rw [List.getD_eq_getElem?_getD, e1]; exact List.mem_range.mp hp, by rw [List.getD_eq_getElem?_getD, e1, List.getD_eq_getElem?_getD, e2]; rfl⟩)
  rw [if_pos (List.idxOf_lt_length_iff.mpr hm)]; rfl
section
variable {P : Program} {w : World} {K : PySem.W.Frag} {mg : Str → Option Value} {base : Heap}
theorem ok_NoLot___init (T : Tx K mg) : FnOk P w K mg base (L2.CX P w) 1 T.x_NoLot.f T.x_NoLot.fd ["self"] spInitN := by
  refine T.x_NoLot.F.okX sc_NoLot___init (fun vs H Q E h => ?_) (fun cdv A outer s H vs Q E hr h => ?_)
  · obtain ⟨a, rfl, _⟩ := h
    rfl
  · obtain ⟨a, rfl, k⟩ := h
    exact ⟨_, pss_one ps_pass, k⟩
theorem ok_NoSort___init (T : Tx K mg) : FnOk P w K mg base (L2.CX P w) 1 T.x_NoSort.f T.x_NoSort.fd ["self"] spInitN := by
  refine T.x_NoSort.F.okX sc_NoSort___init (fun vs H Q E h => ?_) (fun cdv A outer s H vs Q E hr h => ?_)
  · obtain ⟨a, rfl, _⟩ := h
    rfl
  · obtain ⟨a, rfl, k⟩ := h
    exact ⟨_, pss_one ps_pass, k⟩
theorem ok_is_lot (T : Tx K mg) : FnOk P w K mg base CX0 4 T.is_lot.f T.is_lot.fd ["web", "thing"] (spJudge T.Web.C isLot) := by
  refine T.is_lot.F.ok sc_is_lot (fun vs H Q E h => ?_) (fun cdv A outer s H vs Q E hr h => ?_)
  · obtain ⟨_, p, n, rds, v, d, rfl, _⟩ := h
    rfl
  · obtain ⟨h, p, n, rds, v, d, rfl, W, r, k⟩ := h
    refine ⟨_, (pss_one (ps_ret (pe_and (pe_callB call_isi (by rfl) T.n_isinstance (by decide +kernel) (pa_cons (pv 1) (pa_cons (pe_bltn (v := .ty "tuple") (by rfl) T.n_tuple (by decide +kernel) rfl) pa_nil))) (pe_and (pe_callB (cr_all rfl) (by rfl) T.n_all (by decide +kernel) (pa_cons (pe_lc (own := [("road", 2)]) (g := (gName 2)) (tt := tYes) rfl sc_is_lot.nd (pi_tup (pv 1)) (blkOk_by (own := [("road", 2)]) (N := ["web", "thing", "road", "after"]) (sc := defScope s_is_lot) (by decide +kernel)) (fun _ _ _ _ _ => (pg_name (i := 2) sc_is_lot.nd rfl (Or.inl rfl))) (fun _ _ _ _ _ => pts_nil) (fun _ _ _ _ _ => (by exact (pe_call (ok_is_road T) (hr.mono (by decide)) rfl T.is_road.g T.is_road.F.kp T.is_road.b .nil pass0 (pa_cons (pv 0) (pa_cons (pv 2) pa_nil)))))) pa_nil)) (pe_one (pe_callB (cr_all rfl) (by rfl) T.n_all (by decide +kernel) (pa_cons (pe_lc (own := [("road", 2), ("after", 3)]) (g := (gTup K 2 (gCons (gName 2) (gCons (gName 3) gNil)))) (tt := tYes) rfl sc_is_lot.nd (RZ.pi_zipA (by rfl) T.n_zip (pa_cons (pv 1) (pa_cons (pe_slice sl_tupA (pv 1) (po_some pe_int) po_none) pa_nil))) (blkOk_by (own := [("road", 2), ("after", 3)]) (N := ["web", "thing", "road", "after"]) (sc := defScope s_is_lot) (by decide +kernel)) (fun _ _ _ _ _ => (pg_tup (by rfl) (pgs_cons (pg_name (i := 2) sc_is_lot.nd rfl (Or.inl rfl)) (pgs_cons (pg_name (i := 3) sc_is_lot.nd rfl (Or.inl rfl)) pgs_nil)))) (fun _ _ _ _ _ => pts_nil) (fun _ _ _ _ _ => (by exact (pe_cmpR op_lt (pv 2) (pv 3) (nomark _))))) pa_nil))))))), ?_⟩
    refine ⟨_, rfl, _, _, _, _, _, rfl, .ty "tuple", r.ty, kit_ty (kitT d), _, rfl, ?_⟩
    cases r with
    | @tup pa xs ds e z ra =>
      refine iteT ?_
      refine ⟨_, rfl, _, rfl, ⟨_, SqT.of e⟩, fun A hA => all_tup e z ra (isRoad rds) hA (fun x => rfl) (fun x d H' Q' _ s1 rp q => ?_) (fun H' sm sl => ?_)⟩
      · exact ⟨_, rfl, _, rfl, h, p, n, rds, _, _, rfl, W.same s1, rp, q _ (Same.refl _)⟩
      · refine ⟨_, _, rfl, sl, _, rfl, ?_⟩
        rw [map_all]
        cases e1 : ds.all (isRoad rds) with
        | false =>
          refine iteF ?_
          have := k H' sm
          rw [isLot_tup, e1] at this
          exact this
        | true =>
          refine iteT ?_
          obtain ⟨ns, rfl, rfl, hn⟩ := roads_in ra e1
          rw [List.length_map] at z
          refine ⟨_, rfl, _, rfl, _, rfl, ?_⟩
          delta tNoPart
          refine sl1 (sm _ _ e) fun b H1 s1 eb => ?_
          refine ⟨_, _, _, _, rfl, .inr ⟨SqT.of (s1 _ _ (sm _ _ e)), SqT.of eb, fun A2 hA2 => lc_next (fun a b => decide (a < b)) (sm.trans s1) hA2 (s1 _ _ (sm _ _ e)) eb z (fun x y => rfl) (fun i hi H2 Q' s2 q => ?_) (fun H2 s2 sl2 => ?_)⟩⟩
          · exact ⟨_, rfl, _, rfl, _, _, rfl, rfl, q _ (Same.refl _)⟩
          · refine ⟨_, _, rfl, sl2, ?_⟩
            rw [map_range_all]
            have := k H2 s2
            rw [isLot_tup, e1, Bool.true_and, nums_map] at this
            unfold adj at this
            rw [List.length_map] at this
            exact this
    | _ => exact iteF (k H (Same.refl _))
def spSort : Sp := fun vs H Q _ => ∃ (h : Addr) (v : V) (d : D), vs = [v] ∧ Rp H h v d ∧ Q (.bl (isSortD d)) H
theorem ok_is_sort (T : Tx K mg) : FnOk P w K mg base CX0 1 T.is_sort.f T.is_sort.fd ["thing"] spSort := by
  refine T.is_sort.F.ok sc_is_sort (fun vs H Q E h => ?_) (fun cdv A outer s H vs Q E hr h => ?_)
  · obtain ⟨_, v, d, rfl, _⟩ := h
    rfl
  · obtain ⟨_, v, d, rfl, r, k⟩ := h
    refine ⟨_, (pss_one (ps_ret (pe_and (pe_callB call_isi (by rfl) T.n_isinstance (by decide +kernel) (pa_cons (pv 0) (pa_cons (pe_bltn (v := .ty "str") (by rfl) T.n_str (by decide +kernel) rfl) pa_nil))) (pe_one (pe_cmpR op_in_seq (pv 0) (pe_glob (v := .ref T.c_SORTS.choose) rfl T.c_SORTS.choose_spec.1 rfl) (by rfl)))))), ?_⟩
    refine ⟨_, rfl, _, _, _, _, _, rfl, .ty "str", r.ty, kit_ty (kitS d), _, rfl, ?_⟩
    cases r with
    | str x =>
      refine iteT ⟨_, rfl, _, _, rfl, .inr (T.c_SORTS.choose_spec.2 H), rfl, rfl, ?_⟩
      rw [if_neg (by decide)]
      exact k
    | _ => exact iteF k
def spCheck (C CL CS : Addr) : Sp := fun vs H Q E => ∃ (h p : Addr) (n : Int) (rds : List D) (v s : V) (d ds : D), vs = [.ref p, v, s] ∧ WebO C H h p n rds ∧ Rp H h v d ∧ Rp H h s ds ∧
  (isLot rds d = false → ∀ H', Same H H' → E (.ref CL) none H') ∧ (isLot rds d = true → isSortD ds = false → ∀ H', Same H H' → E (.ref CS) none H') ∧ (isLot rds d = true → isSortD ds = true → ∀ H', Same H H' → Q .non H')
theorem ok_check_lot_and_sort (T : Tx K mg) : FnOk P w K mg base (L2.CX P w) 5 T.check_lot_and_sort.f T.check_lot_and_sort.fd ["web", "lot", "sort"] (spCheck T.Web.C T.x_NoLot.C T.x_NoSort.C) := by
  refine T.check_lot_and_sort.F.okX sc_check_lot_and_sort (fun vs H Q E h => ?_) (fun cdv A outer s H vs Q E hr h => ?_)
  · obtain ⟨_, _, _, _, _, _, _, _, rfl, _⟩ := h
    rfl
  · obtain ⟨h, p, n, rds, v, s, d, ds, rfl, W, r, rs, k1, k2, k3⟩ := h
    refine ⟨_, (pss_cons (ps_if (pt_not (pt_val (pe_call (ok_is_lot T) (hr.mono (by decide)) rfl T.is_lot.g T.is_lot.F.kp T.is_lot.b .nil pass0 (pa_cons (pv 0) (pa_cons (pv 1) pa_nil)))))
      (pss_one (ps_raise rfl (takes_of rfl rfl rfl rfl) (pmk_oexN T.x_NoLot.T T.x_NoLot.iC T.x_NoLot.tI (ok_NoLot___init T) (hr.mono (by decide)) T.x_NoLot.b passL rfl T.x_NoLot.g)))
      pss_nil)
      (pss_one (ps_if (pt_not (pt_val (pe_call (ok_is_sort T) (hr.mono (by decide)) rfl T.is_sort.g T.is_sort.F.kp T.is_sort.b .nil pass0 (pa_cons (pv 2) pa_nil))))
      (pss_one (ps_raise rfl (takes_of rfl rfl rfl rfl) (pmk_oexN T.x_NoSort.T T.x_NoSort.iC T.x_NoSort.tI (ok_NoSort___init T) (hr.mono (by decide)) T.x_NoSort.b passL rfl T.x_NoSort.g)))
      pss_nil))), ?_⟩
    refine ⟨_, rfl, _, rfl, h, p, n, rds, v, d, rfl, W, r, fun H1 s1 => ⟨_, rfl, ?_⟩⟩
    cases e : isLot rds d with
    | false => exact iteT (k1 e H1 s1)
    | true =>
      refine iteF ⟨_, rfl, h, _, _, rfl, rs.same s1, _, rfl, ?_⟩
      cases e2 : isSortD ds with
      | false => exact iteT (k2 e e2 H1 s1)
      | true => exact iteF (k3 e e2 H1 s1)
end
end Hc


set_option Elab.async false
set_option linter.all false
set_option maxRecDepth 100000
set_option maxHeartbeats 4000000
set_option autoImplicit false
namespace Hc
open PySem L2
section
variable {P : Program} {w : World} {K : PySem.W.Frag} {mg : Str → Option Value} {base : Heap}
/-- a list of lists of ints at F -/
def GrAt (H : Hp) (F : Addr) (its : List (List Int)) : Prop := ∃ as : List Addr, H F = some (.lst (as.map V.ref)) ∧ as.length = its.length ∧ ∀ (k : Nat) (is : List Int), its[k]? = some is → ∃ a, as[k]? = some a ∧ H a = some (.lst (is.map V.int))
theorem GrAt.same {H H' : Hp} {F : Addr} {its : List (List Int)} (g : GrAt H F its) (s : Same H H') : GrAt H' F its := by
  obtain ⟨as, e, l, f⟩ := g
  exact ⟨as, s _ _ e, l, fun k is e1 => let ⟨a, q1, q2⟩ := f k is e1; ⟨a, q1, s _ _ q2⟩⟩
def spTurnsOf (C CW : Addr) : Sp := fun vs H Q _ => ∃ (h p : Addr) (n : Int) (rds : List D) (rm tm : List Int) (ls : List Lt) (rows : List (List Int)), vs = [.ref p] ∧ DayO C CW H h p n rds rm tm ls rows ∧ DayOk rds rm tm ls rows ∧
  ∀ F H' S, Same H H' → SrtOf (pAll ls rows ls.length) S → GrAt H' F (itsOf S ls rows) → Q (.ref F) H'
theorem ok_turns_of (T : Tx K mg) : FnOk P w K mg base CX0 1 T.turns_of.f T.turns_of.fd ["day"] (spTurnsOf T.Day.C T.Web.C) := by
  refine T.turns_of.F.ok sc_turns_of (fun vs H Q E h => ?_) (fun cdv A outer s H vs Q E hr h => ?_)
  · obtain ⟨_, _, _, _, _, _, _, _, rfl, _⟩ := h
    rfl
  · obtain ⟨h, p, n, rds, rm, tm, ls, rows, rfl, O, ok, kq⟩ := h
    obtain ⟨dx, fs, pw, v2, v3, ep, l100, fw, fl, fh, W, r2, r3⟩ := O.ex
    obtain ⟨q, xs, rfl, eq, lx, at_⟩ := lts_at r2
    obtain ⟨b, ys, rfl, er, ly, rat⟩ := rows_at r3
    have ll : rows.length = ls.length := ok.n.1
    have l60 := ok.l
    refine ⟨_, (pss_cons (ps_set (i := 1) sc_turns_of.nd rfl (Or.inl rfl) (pe_lst pa_nil))
      (pss_cons (ps_for PassesOwn.never rfl (pi_enumZ (by rfl) T.n_enumerate (by rfl) T.n_zip (pa_cons (pe_fld (pv 0) rfl) (pa_cons (pe_fld (pv 0) rfl) pa_nil))) (pg_tup (by rfl) (pgs_cons (pg_name (i := 2) sc_turns_of.nd rfl (Or.inl rfl)) (pgs_cons (by exact (pg_tup (by rfl) (pgs_cons (by exact (pg_tup (by rfl) (pgs_cons (pg_name (i := 3) sc_turns_of.nd rfl (Or.inl rfl)) (pgs_cons (pg_name (i := 4) sc_turns_of.nd rfl (Or.inl rfl)) pgs_nil)))) (pgs_cons (pg_name (i := 5) sc_turns_of.nd rfl (Or.inl rfl)) pgs_nil)))) pgs_nil)))
      (pss_one (ps_for PassesOwn.never rfl (pi_enumZ (by rfl) T.n_enumerate (by rfl) T.n_zip (pa_cons (pv 3) (pa_cons (pv 5) pa_nil))) (pg_tup (by rfl) (pgs_cons (pg_name (i := 6) sc_turns_of.nd rfl (Or.inl rfl)) (pgs_cons (by exact (pg_tup (by rfl) (pgs_cons (pg_name (i := 7) sc_turns_of.nd rfl (Or.inl rfl)) (pgs_cons (pg_name (i := 8) sc_turns_of.nd rfl (Or.inl rfl)) pgs_nil)))) pgs_nil)))
      (pss_one (ps_expr (pe_bm PySem.F.plainAttrs_list PySem.F.slot_list_append PySem.F.type_list_append mt_append (pv 1) (pa_cons (pe_tup (pa_cons (pv 7) (pa_cons (pv 8) (pa_cons (pv 2) (pa_cons (pv 6) pa_nil))))) pa_nil)))))))
      (pss_cons (ps_setLc (i := 9) (own := [("row", 5)]) (g := (gName 5)) (tt := tYes) (te := (tLc (iTup K (tVar 5)) (gName 4) tYes (tC (.int 0)) (([("_", 4)] : List (Str × Nat)).map (·.2)))) rfl sc_turns_of.nd rfl rfl (sw_true rfl rfl rfl (by decide +kernel)) (pi_tup (pe_fld (pv 0) rfl)) (blkOk_by (own := [("row", 5)]) (N := ["day", "passings", "letter", "way", "_", "row", "place", "road", "hour", "turns", "done"]) (sc := defScope s_turns_of) (by decide +kernel)) (fun _ _ _ _ _ => (pg_name (i := 5) sc_turns_of.nd rfl (Or.inl rfl))) (fun _ _ _ _ _ => pts_nil) (fun _ _ _ _ _ => (by exact (pe_lc (own := [("_", 4)]) (g := (gName 4)) (tt := tYes) rfl sc_turns_of.nd (pi_tup (pv 5)) (blkOk_by (own := [("_", 4)]) (N := ["day", "passings", "letter", "way", "_", "row", "place", "road", "hour", "turns", "done"]) (sc := ({ kind := .function, names := [(".0", .local), ("row", .local)], isGenerator := false, isCoroutine := false } : Scope)) (by decide +kernel)) (fun _ _ _ _ _ => (pg_name (i := 4) sc_turns_of.nd rfl (Or.inl rfl))) (fun _ _ _ _ _ => pts_nil) (fun _ _ _ _ _ => (by exact pe_int))))))
      (pss_cons (ps_setLc (i := 10) (own := [("_", 4)]) (g := (gName 4)) (tt := tYes) rfl sc_turns_of.nd rfl rfl (sw_true rfl rfl rfl (by decide +kernel)) (pi_tup (pe_fld (pe_fld (pv 0) rfl) rfl)) (blkOk_by (own := [("_", 4)]) (N := ["day", "passings", "letter", "way", "_", "row", "place", "road", "hour", "turns", "done"]) (sc := defScope s_turns_of) (by decide +kernel)) (fun _ _ _ _ _ => (pg_name (i := 4) sc_turns_of.nd rfl (Or.inl rfl))) (fun _ _ _ _ _ => pts_nil) (fun _ _ _ _ _ => (by exact pe_int)))
      (pss_cons (ps_for PassesOwn.never rfl (pi_list (pe_callB cr_sortedR (by rfl) T.n_sorted (by decide +kernel) (pa_cons (pv 1) pa_nil))) (pg_tup (by rfl) (pgs_cons (pg_name (i := 7) sc_turns_of.nd rfl (Or.inl rfl)) (pgs_cons (pg_name (i := 4) sc_turns_of.nd rfl (Or.inl rfl)) (pgs_cons (pg_name (i := 2) sc_turns_of.nd rfl (Or.inl rfl)) (pgs_cons (pg_name (i := 6) sc_turns_of.nd rfl (Or.inl rfl)) pgs_nil)))))
      (pss_cons (ps_asg (pe_ix ix_list (pv 10) (pv 7) (fun _ _ => rfl)) (pg_sub (pe_ix ix_list (pv 9) (pv 2) (fun _ _ => rfl)) (pv 6) set_list))
      (pss_one (ps_augS (pv 10) (pv 7) get_list pe_int ip_add set_list))))
      (pss_one (ps_ret (pv 9)))))))), ?_⟩
    refine ⟨by show 0 ≤ sizeLine; decide, fun F hF => ?_⟩
    have m0 : Same H (Msk F (upd H F (.lst []))) := Msk.of hF (same_upd hF)
    refine ⟨_, rfl, p, T.Day.C, dx, _, _, rfl, (Msk.inv (m0 _ _ ep)).2, T.Day.cl, T.Day.no _ (by simp), fl, _, rfl, p, T.Day.C, dx, _, _, rfl, (Msk.inv (m0 _ _ ep)).2, T.Day.cl, T.Day.no _ (by simp), fh, q, b, xs, ys, rfl, SqT.of (Msk.inv (m0 _ _ eq)).2, SqT.of (Msk.inv (m0 _ _ er)).2, ?_⟩
    refine for_enumZ (xs := xs) (ys := ys) (by omega) (fun i σ' H' => ∃ (o2 o3 o4 o5 o6 o7 o8 o9 o10 : Option V) (L : List (Addr × List Int)), σ' = [some (.ref p), some (.ref F), o2, o3, o4, o5, o6, o7, o8, o9, o10] ∧ Same H (Msk F H') ∧ RsAt H' F L ∧ L.map (·.2) = pAll ls rows i ∧ L.length ≤ 8 * i)
      ⟨_, _, _, _, _, _, _, _, _, [], rfl, m0, RsAt.nil upd_same, rfl, Nat.le_refl _⟩ (fun i σ' H' ⟨_, _, _, _, _, _, _, _, _, _, _, s, _⟩ => ⟨SqT.of (Msk.inv (s _ _ eq)).2, SqT.of (Msk.inv (s _ _ er)).2⟩) ?_ ?_
    · rintro i x y S TT σ' H1 hx hy hS hT hST ⟨o2, o3, o4, o5, o6, o7, o8, o9, o10, L, rfl, s1, R1, eL, lL⟩
      have hi : i < ls.length := by rw [← lx]; exact (List.getElem?_eq_some_iff.mp hx).1
      obtain ⟨l, el⟩ : ∃ l, ls[i]? = some l := ⟨_, List.getElem?_eq_getElem hi⟩
      obtain ⟨r, er'⟩ : ∃ r, rows[i]? = some r := ⟨_, List.getElem?_eq_getElem (by omega)⟩
      obtain ⟨x', ex', rx⟩ := at_ i l el
      rw [hx] at ex'
      cases ex'
      obtain ⟨b2, eb2, ey⟩ := rat i r er'
      rw [hy] at eb2
      cases eb2
      have lr : r.length = l.1.length := ok.n.2 i l r el er'
      obtain ⟨oo1, oo2, oo3, _⟩ := ok.o.h l (List.mem_of_getElem? el)
      have st : Same H1 (upd (upd H1 S (.tup [x, .ref b2])) TT (.tup [.int (i : Nat), .ref S])) := (same_upd hS).trans (same_upd (by rw [upd_ne (Ne.symm hST)]; exact hT))
      have eT : (upd (upd H1 S (.tup [x, .ref b2])) TT (.tup [.int (i : Nat), .ref S])) TT = some (.tup [.int (i : Nat), .ref S]) := upd_same
      have eS : (upd (upd H1 S (.tup [x, .ref b2])) TT (.tup [.int (i : Nat), .ref S])) S = some (.tup [x, .ref b2]) := by rw [upd_ne hST, upd_same]
      generalize upd (upd H1 S (.tup [x, .ref b2])) TT (.tup [.int (i : Nat), .ref S]) = H2 at st eT eS ⊢
      have s2 : Same H (Msk F H2) := s1.trans (Msk.mono st)
      have R2 := R1.same st
      clear hS hT hST
      have s02 : Same H H2 := s2.trans (Msk.same F H2)
      obtain ⟨ql, al, rfl, eql, eal⟩ := lt_inv (rx.same s02)
      refine ⟨TT, _, rfl, SqT.of eT, rfl, _, _, rfl, _, _, rfl, S, _, rfl, SqT.of eS, rfl, _, _, rfl, ql, _, rfl, SqT.of eql, rfl, _, _, rfl, _, _, rfl, rfl, _, _, rfl, rfl, rfl, ?_⟩
      refine ⟨_, rfl, _, rfl, al, b2, _, _, rfl, SqT.of eal, SqT.of (s02 _ _ ey), ?_⟩
      have nl : ∀ {a : Addr} {xs : List V}, H2 a = some (.tup xs) → a ≠ F := fun e z => by subst z; rw [R2.1] at e; cases e
      refine for_enumZ (xs := l.1.map fun j => V.int (j : Nat)) (ys := r.map V.int) (by rw [List.length_map, List.length_map]; omega)
        (fun j σ' H' => ∃ (o6 o7 o8 : Option V) (L : List (Addr × List Int)), σ' = [some (.ref p), some (.ref F), some (.int (i : Nat)), some (.ref al), some (.int l.2), some (.ref b2), o6, o7, o8, o9, o10] ∧ Same (Msk F H2) (Msk F H') ∧ RsAt H' F L ∧ L.map (·.2) = pAll ls rows i ++ pLt i l r j ∧ L.length ≤ 8 * i + j)
        ⟨_, _, _, L, rfl, Same.refl _, R2, by rw [eL]; show _ = _ ++ []; rw [List.append_nil], lL⟩ (fun j σ' H' ⟨_, _, _, _, _, s, _⟩ => ⟨SqT.of (Msk.inv (s _ _ (Msk.mk (nl eal) eal))).2, SqT.of (Msk.inv (s _ _ (Msk.mk (nl (s02 _ _ ey)) (s02 _ _ ey)))).2⟩) ?_ ?_
      · rintro j x y S' TT' σ' H4 hx hy hS hT hST ⟨o6, o7, o8, L4, rfl, s4, R4, eL4, lL4⟩
        have hj : j < l.1.length := by
          have := (List.getElem?_eq_some_iff.mp hx).1
          rwa [List.length_map] at this
        have hjr : j < r.length := by omega
        obtain rfl : x = .int ((l.1.getD j 0 : Nat) : Int) := by
          rw [List.getElem?_map, List.getElem?_eq_getElem hj] at hx
          rw [List.getD_eq_getElem?_getD, List.getElem?_eq_getElem hj]
          exact (Option.some.inj hx).symm
        obtain rfl : y = .int (r.getD j 0) := by
          rw [List.getElem?_map, List.getElem?_eq_getElem hjr] at hy
          rw [List.getD_eq_getElem?_getD, List.getElem?_eq_getElem hjr]
          exact (Option.some.inj hy).symm
        have st5 : Same H4 (upd (upd H4 S' (.tup [.int ((l.1.getD j 0 : Nat) : Int), .int (r.getD j 0)])) TT' (.tup [.int (j : Nat), .ref S'])) := (same_upd hS).trans (same_upd (by rw [upd_ne (Ne.symm hST)]; exact hT))
        have e5 : (upd (upd H4 S' (.tup [.int ((l.1.getD j 0 : Nat) : Int), .int (r.getD j 0)])) TT' (.tup [.int (j : Nat), .ref S'])) TT' = some (.tup [.int (j : Nat), .ref S']) := upd_same
        have e5' : (upd (upd H4 S' (.tup [.int ((l.1.getD j 0 : Nat) : Int), .int (r.getD j 0)])) TT' (.tup [.int (j : Nat), .ref S'])) S' = some (.tup [.int ((l.1.getD j 0 : Nat) : Int), .int (r.getD j 0)]) := by rw [upd_ne hST, upd_same]
        generalize upd (upd H4 S' (.tup [.int ((l.1.getD j 0 : Nat) : Int), .int (r.getD j 0)])) TT' (.tup [.int (j : Nat), .ref S']) = H5 at st5 e5 e5' ⊢
        have R5 := R4.same st5
        have s45 : Same (Msk F H2) (Msk F H5) := s4.trans (Msk.mono st5)
        refine ⟨TT', _, rfl, SqT.of e5, rfl, _, _, rfl, _, _, rfl, S', _, rfl, SqT.of e5', rfl, _, _, rfl, _, _, rfl, rfl, rfl, ?_⟩
        refine ⟨_, rfl, .inl ⟨rfl, _, SqL.of R5.1⟩, _, rfl, _, rfl, _, rfl, _, rfl, by show 4 ≤ sizeLine; decide, fun u hu => ?_⟩
        have s6 : Same H5 (upd H5 u (.tup [.int ((l.1.getD j 0 : Nat) : Int), .int (r.getD j 0), .int ((i : Nat) : Int), .int ((j : Nat) : Int)])) := same_upd hu
        have e6 : (upd H5 u (.tup [.int ((l.1.getD j 0 : Nat) : Int), .int (r.getD j 0), .int ((i : Nat) : Int), .int ((j : Nat) : Int)])) u = some (.tup ((pAt i l r j).map V.int)) := upd_same
        generalize upd H5 u (.tup [.int ((l.1.getD j 0 : Nat) : Int), .int (r.getD j 0), .int ((i : Nat) : Int), .int ((j : Nat) : Int)]) = H6 at s6 e6 ⊢
        have R6 := R5.same s6
        refine ⟨F, _, _, rfl, rfl, R6.1, line_lt (by rw [List.length_map]; omega), ?_⟩
        refine ⟨_, _, _, _, rfl, Msk.upd' (s45.trans (Msk.mono s6)), R6.snoc (p := pAt i l r j) e6 (by unfold pAt; simp), ?_, by rw [List.length_append]; show L4.length + 1 ≤ _; omega⟩
        rw [List.map_append, eL4, pLt_succ, List.append_assoc]; rfl
      · rintro σ' H4 ⟨o6, o7, o8, L4, rfl, s4, R4, eL4, lL4⟩
        rw [List.length_map] at eL4 lL4
        exact ⟨_, _, _, _, _, _, _, _, _, L4, rfl, s2.trans s4, R4, by rw [pAll_succ el er', eL4], by omega⟩
    rintro σ' H1 ⟨o2, o3, o4, o5, o6, o7, o8, o9, o10, L, rfl, s1, R1, eL, lL⟩
    have s01 : Same H H1 := s1.trans (Msk.same F H1)
    have l480 : L.length ≤ 480 := by omega
    rw [lx] at eL
    clear m0 hF s1
    -- the grid
    refine ⟨_, rfl, p, T.Day.C, dx, _, _, rfl, s01 _ _ ep, T.Day.cl, T.Day.no _ (by simp), fh, b, rfl, ⟨_, SqT.of (s01 _ _ er)⟩, fun D hD => ?_⟩
    have lyl : ys.length ≤ 60 := by omega
    refine lc_tup (xs := ys) (fun i H' => ∃ as : List Addr, Same H1 H' ∧ H' D = some (.lst (as.map V.ref)) ∧ as.length = i ∧ as.Nodup ∧ D ∉ as ∧ H1 D = none ∧ (∀ a ∈ as, H1 a = none) ∧
        ∀ (k : Nat) (l : Lt) (r : List Int), k < i → ls[k]? = some l → rows[k]? = some r → ∃ a, as[k]? = some a ∧ H' a = some (.lst (gRow [] 0 k l r)))
      ⟨[], same_upd hD, upd_same, rfl, List.nodup_nil, List.not_mem_nil, hD, (fun _ z => nomatch z), fun k l r hk => by omega⟩ (fun i H' _ ⟨_, s, _⟩ => SqT.of (s _ _ (s01 _ _ er))) ?_ ?_
    · rintro i y H' hy ⟨as, s, hd, la, nda, nDa, hD0, fra, fa⟩
      have hi : i < ls.length := by
        have := (List.getElem?_eq_some_iff.mp hy).1
        omega
      obtain ⟨l, el⟩ : ∃ l, ls[i]? = some l := ⟨_, List.getElem?_eq_getElem hi⟩
      obtain ⟨r, er'⟩ : ∃ r, rows[i]? = some r := ⟨_, List.getElem?_eq_getElem (by omega)⟩
      obtain ⟨b2, eb2, ey⟩ := rat i r er'
      rw [hy] at eb2
      cases eb2
      have lr : r.length = l.1.length := ok.n.2 i l r el er'
      obtain ⟨oo1, oo2, oo3, _⟩ := ok.o.h l (List.mem_of_getElem? el)
      have ey' := s _ _ (s01 _ _ ey)
      refine ⟨rfl, tyes ⟨_, rfl, b2, rfl, ⟨_, SqT.of ey'⟩, fun D2 hD2 => ?_⟩⟩
      have nD2 : D2 ≠ D := fun z => by subst z; rw [hd] at hD2; cases hD2
      refine lc_tup (xs := r.map V.int) (fun j H'' => Same H' (Msk D2 H'') ∧ H'' D2 = some (.lst ((List.range j).map fun _ => V.int 0))) ⟨Msk.of hD2 (same_upd hD2), upd_same⟩ (fun j H'' _ ⟨s, _⟩ => SqT.of (Msk.inv (s _ _ ey')).2) ?_ ?_
      · rintro j y H'' hy ⟨s2, hd2⟩
        have hj : j < r.length := by
          have := (List.getElem?_eq_some_iff.mp hy).1
          rwa [List.length_map] at this
        refine ⟨rfl, tyes ⟨_, hd2, by rw [List.length_map, List.length_range]; exact line_lt (by omega), Msk.upd' s2, ?_⟩⟩
        rw [upd_same, List.range_succ, List.map_append]; rfl
      · rintro H'' ⟨s2, hd2⟩
        rw [List.length_map] at hd2
        have s3 : Same H' H'' := s2.trans (Msk.same D2 H'')
        have hdD := s3 _ _ hd
        have fr2 : H1 D2 = none := by
          cases g : H1 D2 with
          | none => rfl
          | some o => have := s _ _ g; rw [hD2] at this; cases this
        have nas : D2 ∉ as := fun z => by
          obtain ⟨k, hk⟩ := List.getElem?_of_mem z
          have hki : k < i := by rw [← la]; exact (List.getElem?_eq_some_iff.mp hk).1
          obtain ⟨a, q1, q2⟩ := fa k _ _ hki (List.getElem?_eq_getElem (show k < ls.length by omega)) (List.getElem?_eq_getElem (show k < rows.length by omega))
          rw [hk] at q1
          cases q1
          rw [hD2] at q2; cases q2
        refine ⟨_, hdD, by rw [List.length_map]; exact line_lt (by omega), as ++ [D2], ?_, by rw [upd_same, List.map_append]; rfl, by rw [List.length_append, la]; rfl, ?_, ?_, hD0, ?_, ?_⟩
        · exact fun b o z => by rw [upd_ne (ne_of_none z hD0)]; exact s3 _ _ (s _ _ z)
        · rw [List.nodup_append]
          exact ⟨nda, List.nodup_cons.mpr ⟨List.not_mem_nil, List.nodup_nil⟩, fun a ha b hb e => by rw [List.mem_singleton] at hb; exact nas (hb ▸ e ▸ ha)⟩
        · intro z
          rcases List.mem_append.mp z with z | z
          · exact nDa z
          · rw [List.mem_singleton] at z; exact nD2 z.symm
        · intro a ha
          rcases List.mem_append.mp ha with ha | ha
          · exact fra a ha
          · rw [List.mem_singleton] at ha; subst ha; exact fr2
        · intro k l' r' hk e1 e2
          by_cases hk2 : k < i
          · obtain ⟨a, q1, q2⟩ := fa k l' r' hk2 e1 e2
            refine ⟨a, by rw [List.getElem?_append_left (by omega)]; exact q1, ?_⟩
            rw [upd_ne (fun z => nDa (by rw [← z]; exact List.mem_of_getElem? q1))]
            exact s3 _ _ q2
          · have : k = i := by omega
            subst this
            rw [el] at e1
            rw [er'] at e2
            cases e1
            cases e2
            refine ⟨D2, by rw [List.getElem?_append_right (by omega), la, Nat.sub_self]; rfl, ?_⟩
            rw [upd_ne nD2, hd2, gRow_zero, lr]
    rintro H2 ⟨as, s2, hdD, la, nda, nDa, hD0, fra, fa⟩
    rw [ly] at la
    have s02 := s01.trans s2
    -- the counters
    obtain ⟨⟨dw, w1, w2, w3, w4, ew, rw2, _⟩, _, _, wl2, _⟩ := W
    obtain ⟨pr, xr, rfl, err, _, rr⟩ := tup_inv rw2
    have lxr := rr.len
    refine ⟨_, rfl, p, T.Day.C, dx, _, _, rfl, s02 _ _ ep, T.Day.cl, T.Day.no _ (by simp), fw, pw, T.Web.C, dw, _, _, rfl, s02 _ _ ew, T.Web.cl, T.Web.no _ (by simp), wF_r _ _ _ _, pr, rfl, ⟨_, SqT.of (s02 _ _ err)⟩, fun Dn hDn => ?_⟩
    refine lc_tup (xs := xr) (fun i H' => Same H2 (Msk Dn H') ∧ H' Dn = some (.lst ((List.range i).map fun _ => V.int 0))) ⟨Msk.of hDn (same_upd hDn), upd_same⟩ (fun j H'' _ ⟨s, _⟩ => SqT.of (Msk.inv (s _ _ (s02 _ _ err))).2) ?_ ?_
    · rintro j y H'' hy ⟨s3, hd3⟩
      have hj := (List.getElem?_eq_some_iff.mp hy).1
      refine ⟨rfl, tyes ⟨_, hd3, by rw [List.length_map, List.length_range]; exact line_lt (by omega), Msk.upd' s3, ?_⟩⟩
      rw [upd_same, List.range_succ, List.map_append]; rfl
    rintro H3 ⟨s3, hd3⟩
    have s23 : Same H2 H3 := s3.trans (Msk.same Dn H3)
    have nDnD : Dn ≠ D := fun z => by subst z; rw [hdD] at hDn; cases hDn
    have nDnas : Dn ∉ as := fun z => by
      obtain ⟨k, hk⟩ := List.getElem?_of_mem z
      have hki : k < ls.length := by rw [← ll, ← la]; exact (List.getElem?_eq_some_iff.mp hk).1
      obtain ⟨a, q1, q2⟩ := fa k _ _ (by omega) (List.getElem?_eq_getElem hki) (List.getElem?_eq_getElem (show k < rows.length by omega))
      rw [hk] at q1
      cases q1
      rw [hDn] at q2; cases q2
    have s13 := s2.trans s23
    refine ⟨_, rfl, ?_⟩
    delta tNil
    dsimp only
    refine sorted_rs (R1.same s13) fun P H4 L' s4 hP R4 so => ?_
    rw [eL] at so
    obtain ⟨S, hS⟩ : ∃ S, S = L'.map (·.2) := ⟨_, rfl⟩
    rw [← hS] at so
    have nd : S.Nodup := so.1.nodup_iff.mpr (pAll_nodup _ _ _)
    have lS : S.length = L'.length := by rw [hS, List.length_map]
    have s24 := s23.trans s4
    have dn4 := s4 _ _ hd3
    have nT : ∀ {t : Addr} {ys : List V}, H4 t = some (.tup ys) → t ∉ Dn :: as := fun e z => by
      rcases List.mem_cons.mp z with rfl | z
      · rw [dn4] at e; cases e
      · obtain ⟨k, hk⟩ := List.getElem?_of_mem z
        have hki : k < ls.length := by rw [← ll, ← la]; exact (List.getElem?_eq_some_iff.mp hk).1
        obtain ⟨a, q1, q2⟩ := fa k _ _ (by omega) (List.getElem?_eq_getElem hki) (List.getElem?_eq_getElem (show k < rows.length by omega))
        rw [hk] at q1
        cases q1
        rw [s24 _ _ q2] at e; cases e
    have nP : P ∉ Dn :: as := fun z => by
      rcases List.mem_cons.mp z with rfl | z
      · rw [hd3] at hP; cases hP
      · obtain ⟨k, hk⟩ := List.getElem?_of_mem z
        have hki : k < ls.length := by rw [← ll, ← la]; exact (List.getElem?_eq_some_iff.mp hk).1
        obtain ⟨a, q1, q2⟩ := fa k _ _ (by omega) (List.getElem?_eq_getElem hki) (List.getElem?_eq_getElem (show k < rows.length by omega))
        rw [hk] at q1
        cases q1
        rw [s23 _ _ q2] at hP; cases hP
    have nD : D ∉ Dn :: as := fun z => by
      rcases List.mem_cons.mp z with z | z
      · exact nDnD z.symm
      · exact nDa z
    have e4D := s24 _ _ hdD
    refine ⟨P, rfl, ⟨_, SqL.of R4.1⟩, ?_⟩
    refine for_list (D := { nx := tRet (tVar 9) { nx := fun _ H' => Q .non H', rt := Q }, rt := Q }) (K := K) (a := P) (xs := L'.map fun p => V.ref p.1) (fun i σ' H' => ∃ (o2 o3 o4 o5 o6 o7 o8 : Option V), σ' = [some (.ref p), some (.ref F), o2, o3, o4, o5, o6, o7, o8, some (.ref D), some (.ref Dn)] ∧ Same (MsL (Dn :: as) H4) H' ∧ H' Dn = some (.lst (dRow S i rds.length)) ∧
        ∀ (k : Nat) (l : Lt) (r : List Int), ls[k]? = some l → rows[k]? = some r → ∃ a, as[k]? = some a ∧ H' a = some (.lst (gRow S i k l r)))
      ?_ ?_ ?_ ?_
    · refine ⟨_, _, _, _, _, _, _, rfl, fun b o z => (MsL.inv z).2, by rw [dn4, dRow_zero, lxr], fun k l r e1 e2 => ?_⟩
      have hki : k < ls.length := (List.getElem?_eq_some_iff.mp e1).1
      obtain ⟨a, q1, q2⟩ := fa k l r (by omega) e1 e2
      exact ⟨a, q1, by rw [s24 _ _ q2, gRow_zero, gRow_zero]⟩
    · exact fun i σ' H' _ ⟨_, _, _, _, _, _, _, _, s, _⟩ => SqL.of (s _ _ (MsL.mk nP R4.1))
    · rintro i x' σ' H5 hx' ⟨o2, o3, o4, o5, o6, o7, o8, rfl, s5, hdn, fg⟩
      have hi : i < L'.length := by
        have := (List.getElem?_eq_some_iff.mp hx').1
        rwa [List.length_map] at this
      have ei : L'[i]? = some L'[i] := List.getElem?_eq_getElem hi
      rw [List.getElem?_map, ei] at hx'
      obtain rfl := (Option.some.inj hx').symm
      obtain ⟨eT, _⟩ := R4.2 L'[i] (List.getElem_mem hi)
      have eS : S[i]? = some L'[i].2 := by rw [hS, List.getElem?_map, ei]; rfl
      obtain ⟨k, pp, hk, hpp, hq⟩ := mem_pAll.mp (so.1.mem_iff.mp (List.mem_of_getElem? eS))
      obtain ⟨l, el⟩ : ∃ l, ls[k]? = some l := ⟨_, List.getElem?_eq_getElem hk⟩
      obtain ⟨r, er'⟩ : ∃ r, rows[k]? = some r := ⟨_, List.getElem?_eq_getElem (by omega)⟩
      rw [show ls.getD k ([], 0) = l by rw [List.getD_eq_getElem?_getD, el]; rfl] at hq hpp
      rw [show rows.getD k [] = r by rw [List.getD_eq_getElem?_getD, er']; rfl] at hq
      rw [hq] at eT eS
      have hj : l.1.getD pp 0 < rds.length := by
        rw [List.getD_eq_getElem?_getD, List.getElem?_eq_getElem hpp]
        exact (ok.o.h l (List.mem_of_getElem? el)).2.2.1 _ (List.getElem_mem hpp)
      obtain ⟨a, qa, ha⟩ := fg k l r el er'
      have ma : a ∈ as := List.mem_of_getElem? qa
      have naD : a ≠ Dn := fun z => nDnas (z ▸ ma)
      have eT5 := s5 _ _ (MsL.mk (nT eT) eT)
      have eD5 := s5 _ _ (MsL.mk nD e4D)
      refine ⟨L'[i].1, _, rfl, SqT.of eT5, rfl, _, _, rfl, _, _, rfl, _, _, rfl, _, _, rfl, rfl, ?_⟩
      refine ⟨_, rfl, _, rfl, Dn, _, _, _, rfl, rfl, SqL.of hdn, atI_nat (dRow_at hj), ?_⟩
      refine ⟨_, rfl, _, rfl, D, _, _, _, rfl, rfl, SqL.of eD5, atI_nat (j := k) (v := V.ref a) (by rw [List.getElem?_map, qa]; rfl), _, rfl, a, _, _, pp, rfl, rfl, ha, ixN_nat (by rw [gRow_len]; exact hpp), ?_⟩
      rw [gRow_set nd eS hpp]
      have hdn6 : (upd H5 a (.lst (gRow S (i + 1) k l r))) Dn = some (.lst (dRow S i rds.length)) := by rw [upd_ne (Ne.symm naD)]; exact hdn
      refine ⟨_, rfl, _, rfl, Dn, _, _, _, rfl, rfl, SqL.of hdn6, atI_nat (dRow_at hj), _, _, rfl, rfl, Dn, _, _, l.1.getD pp 0, rfl, rfl, hdn6, ixN_nat (by rw [dRow_len]; exact hj), ?_⟩
      rw [dRow_set eS rfl]
      refine ⟨_, _, _, _, _, _, _, rfl, fun b o z => ?_, upd_same, fun k' l' r' e1 e2 => ?_⟩
      · have nb := (MsL.inv z).1
        rw [upd_ne (fun y : b = Dn => nb (by rw [y]; exact List.mem_cons_self ..)), upd_ne (fun y : b = a => nb (by rw [y]; exact List.mem_cons_of_mem _ ma))]
        exact s5 _ _ z
      · obtain ⟨a', qa', ha'⟩ := fg k' l' r' e1 e2
        have naD' : a' ≠ Dn := fun z => nDnas (z ▸ List.mem_of_getElem? qa')
        refine ⟨a', qa', ?_⟩
        rw [upd_ne naD']
        by_cases g : k' = k
        · subst g
          rw [qa] at qa'
          rw [el] at e1
          rw [er'] at e2
          cases qa'
          cases e1
          cases e2
          exact upd_same
        · have na : a' ≠ a := fun z => by
            subst z
            obtain ⟨h1, h2⟩ := List.getElem?_eq_some_iff.mp qa
            obtain ⟨h3, h4⟩ := List.getElem?_eq_some_iff.mp qa'
            have pw := List.pairwise_iff_getElem.mp nda
            rcases Nat.lt_or_gt_of_ne g with c | c
            · exact pw k' k h3 h1 c (h4.trans h2.symm)
            · exact pw k k' h1 h3 c (h2.trans h4.symm)
          rw [upd_ne na, gRow_same eS g]
          exact ha'
    · rintro σ' H5 ⟨o2, o3, o4, o5, o6, o7, o8, rfl, s5, hdn, fg⟩
      have lL' : (L'.map fun p => V.ref p.1).length = S.length := by rw [List.length_map, lS]
      rw [lL'] at fg
      refine ⟨_, rfl, kq D H5 S ?_ so ⟨as, s5 _ _ (MsL.mk nD e4D), by rw [itsOf_len]; omega, fun k is e => ?_⟩⟩
      · intro b o z
        refine s5 _ _ (MsL.mk (fun y => ?_) ((s02.trans s24) _ _ z))
        rcases List.mem_cons.mp y with rfl | y
        · rw [s02 _ _ z] at hDn; cases hDn
        · have := fra b y
          rw [s01 _ _ z] at this; cases this
      · have hk : k < ls.length := by
          have := (List.getElem?_eq_some_iff.mp e).1
          rwa [itsOf_len] at this
        have el : ls[k]? = some ls[k] := List.getElem?_eq_getElem hk
        have er' : rows[k]? = some (rows[k]'(by omega)) := List.getElem?_eq_getElem (by omega)
        rw [itsOf_at el er'] at e
        obtain rfl := Option.some.inj e
        obtain ⟨a, q1, q2⟩ := fg k _ _ el er'
        exact ⟨a, q1, by rw [q2, gRow_end so.1 el er']⟩
end
end Hc


set_option Elab.async false
set_option linter.all false
set_option pp.maxSteps 600
set_option maxRecDepth 100000
set_option maxHeartbeats 4000000
set_option autoImplicit false
namespace Hc
open PySem L2
/-- the passings in their order -/
def leI (x y : List Int) : Bool := !Pl.lexI y x
theorem leI_tr (a b c : List Int) (h1 : leI a b = true) (h2 : leI b c = true) : leI a c = true := by
  unfold leI at *
  rw [Bool.not_eq_true'] at *
  exact Pl.lexI_tr a b c h1 h2
theorem leI_tot (a b : List Int) : (leI a b || leI b a) = true := by
  unfold leI
  cases h : Pl.lexI b a with
  | false => rfl
  | true => rw [Pl.lexI_asym _ _ h]; rfl
def srtC (A : List (List Int)) : List (List Int) := A.mergeSort leI
theorem srtC_ok (A : List (List Int)) : SrtOf A (srtC A) := by
  refine ⟨List.mergeSort_perm _ _, (List.pairwise_mergeSort leI_tr leI_tot A).imp fun {a b} h => ?_⟩
  unfold leI at h
  rwa [Bool.not_eq_true'] at h
theorem srtC_eq {A B : List (List Int)} (h : SrtOf A B) : B = srtC A := h.uniq (srtC_ok A)
def itsC (ls : List Lt) (rows : List (List Int)) : List (List Int) := itsOf (srtC (pAll ls rows ls.length)) ls rows
def SortIts (so : Str) (ls : List Lt) (rows its : List (List Int)) : Prop := (so = "hours" ∧ its = rows) ∨ (so = "turns" ∧ its = itsC ls rows)
theorem SortIts.len {so : Str} {ls : List Lt} {rows its : List (List Int)} (x : SortIts so ls rows its) (h : rows.length = ls.length) : its.length = ls.length := by
  rcases x with ⟨_, rfl⟩ | ⟨_, rfl⟩
  · exact h
  · exact itsOf_len _ _ _
theorem hours_ne : decide (V.str "hours" = V.str "turns") = false := by decide +kernel
theorem turns_eq : decide (V.str "turns" = V.str "turns") = true := by decide +kernel
section
variable {P : Program} {w : World} {K : PySem.W.Frag} {mg : Str → Option Value} {base : Heap}
def spTold : Sp := fun vs H Q _ => ∃ (a b c : Addr) (L way : List Nat) (is : List Int), vs = [.ref a, .ref b, .ref c] ∧ H a = some (.tup (L.map fun j => V.int (j : Nat))) ∧ H b = some (.tup (way.map fun j => V.int (j : Nat))) ∧ (H c = some (.tup (is.map V.int)) ∨ H c = some (.lst (is.map V.int))) ∧ is.length = way.length ∧ way.length ≤ 8 ∧
  ∀ u H', Same H H' → H' u = some (.tup (toldL L way is)) → Q (.ref u) H'
theorem ok_told_of (T : Tx K mg) : FnOk P w K mg base CX0 1 T.told_of.f T.told_of.fd ["lot", "way", "row"] spTold := by
  refine T.told_of.F.ok sc_told_of (fun vs H Q E h => ?_) (fun cdv A outer s H vs Q E hr h => ?_)
  · obtain ⟨_, _, _, _, _, _, rfl, _⟩ := h
    rfl
  · obtain ⟨a, b, c, L, way, is, rfl, ea, eb, ec, hl, l8, k⟩ := h
    refine ⟨_, (pss_one (ps_ret (pe_callTy call_tuple_of (by rfl) T.n_tuple (by decide +kernel) (pa_cons (pe_lc (own := [("road", 3), ("item", 4)]) (g := (gTup K 2 (gCons (gName 3) (gCons (gName 4) gNil)))) (tt := tYes) (te := (tIf (tTest (tOp (rIn K false) (tVar 3) (tVar 0))) (tVar 4) (tC .non))) rfl sc_told_of.nd (pi_or (RZ.pi_zipA (by rfl) T.n_zip (pa_cons (pv 1) (pa_cons (pv 2) pa_nil))) (pi_zipM (by rfl) T.n_zip (pa_cons (pv 1) (pa_cons (pv 2) pa_nil)))) (blkOk_by (own := [("road", 3), ("item", 4)]) (N := ["lot", "way", "row", "road", "item"]) (sc := defScope s_told_of) (by decide +kernel)) (fun _ _ _ _ _ => (pg_tup (by rfl) (pgs_cons (pg_name (i := 3) sc_told_of.nd rfl (Or.inl rfl)) (pgs_cons (pg_name (i := 4) sc_told_of.nd rfl (Or.inl rfl)) pgs_nil)))) (fun _ _ _ _ _ => pts_nil) (fun _ _ _ _ _ => (by exact (pe_ifExp (pt_cmpR op_in_seq (pv 3) (pv 0) (by rfl)) (pv 4) pe_non)))) pa_nil)))), ?_⟩
    rcases ec with ec | ec
    · refine .inl ⟨_, rfl, _, rfl, b, c, _, _, rfl, .inr ⟨SqT.of eb, SqT.of ec, fun D hD => ?_⟩⟩
      refine lc_zipT (xs := way.map fun j => V.int (j : Nat)) (ys := is.map V.int) (fun i H' => Same H (Msk D H') ∧ H' D = some (.lst (toldL L (way.take i) (is.take i)))) ⟨Msk.of hD (same_upd hD), upd_same⟩ (fun i H' ⟨s, _⟩ => ⟨SqT.of (Msk.inv (s _ _ eb)).2, SqT.of (Msk.inv (s _ _ ec)).2⟩) ?_ ?_
      · rintro i x y TT H' hx hy ⟨s, hd⟩ hT
        have hi : i < way.length := by
          have := (List.getElem?_eq_some_iff.mp hx).1
          rwa [List.length_map] at this
        obtain rfl : x = .int (way[i] : Nat) := by
          rw [List.getElem?_map, List.getElem?_eq_getElem hi] at hx
          exact (Option.some.inj hx).symm
        obtain rfl : y = .int (is[i]'(by omega)) := by
          rw [List.getElem?_map, List.getElem?_eq_getElem (by omega)] at hy
          exact (Option.some.inj hy).symm
        have st : Same H' (upd H' TT (.tup [.int (way[i] : Nat), .int (is[i]'(by omega))])) := same_upd hT
        have sm := s.trans (Msk.same D H')
        have t1 : toldL L (way.take (i + 1)) (is.take (i + 1)) = toldL L (way.take i) (is.take i) ++ [if way[i] ∈ L then V.int (is[i]'(by omega)) else .non] := by
          unfold toldL
          rw [take_more (List.getElem?_eq_getElem hi), take_more (List.getElem?_eq_getElem (show i < is.length by omega)), List.zip_append (by rw [List.length_take, List.length_take]; omega), List.map_append]; rfl
        have tl : (toldL L (way.take i) (is.take i)).length ≤ 8 := by
          unfold toldL
          rw [List.length_map, List.length_zip, List.length_take]; omega
        have fin : ∀ y : V, y = (if way[i] ∈ L then V.int (is[i]'(by omega)) else .non) → ∃ acc, (upd H' TT (.tup [.int (way[i] : Nat), .int (is[i]'(by omega))])) D = some (.lst acc) ∧ acc.length < sizeLine ∧ Same H (Msk D (upd (upd H' TT (.tup [.int (way[i] : Nat), .int (is[i]'(by omega))])) D (.lst (acc ++ [y])))) ∧ (upd (upd H' TT (.tup [.int (way[i] : Nat), .int (is[i]'(by omega))])) D (.lst (acc ++ [y]))) D = some (.lst (toldL L (way.take (i + 1)) (is.take (i + 1)))) := fun y hy =>
          ⟨_, st _ _ hd, line_lt (by omega), Msk.upd' (s.trans (Msk.mono st)), by rw [upd_same, t1, hy]⟩
        refine ⟨TT, _, rfl, SqT.of upd_same, rfl, _, _, rfl, _, _, rfl, rfl, rfl, tyes ⟨_, rfl, _, rfl, a, _, rfl, .inr (SqT.of (st _ _ (sm _ _ ea))), rfl, flat_nat L, _, rfl, ?_⟩⟩
        rw [if_neg (by decide), in_nat]
        by_cases g : way[i] ∈ L
        · rw [decide_eq_true g]
          exact iteT ⟨_, rfl, fin _ (if_pos g).symm⟩
        · rw [decide_eq_false g]
          exact iteF (fin _ (if_neg g).symm)
      · rintro H' ⟨s, hd⟩
        rw [show min (way.map fun j => V.int (j : Nat)).length (is.map V.int).length = way.length by rw [List.length_map, List.length_map]; omega, List.take_length, List.take_of_length_le (by omega)] at hd
        refine ⟨_, _, rfl, .inl ⟨SqL.of hd, fun u hu => ?_⟩⟩
        exact k u _ ((s.trans (Msk.same D H')).trans (same_upd hu)) upd_same
    · refine .inr ⟨_, rfl, _, rfl, b, c, _, _, rfl, SqT.of eb, SqL.of ec, fun D hD => ?_⟩
      refine lc_zipM (xs := way.map fun j => V.int (j : Nat)) (ys := is.map V.int) (fun i H' => Same H (Msk D H') ∧ H' D = some (.lst (toldL L (way.take i) (is.take i)))) ⟨Msk.of hD (same_upd hD), upd_same⟩ (fun i H' ⟨s, _⟩ => ⟨SqT.of (Msk.inv (s _ _ eb)).2, SqL.of (Msk.inv (s _ _ ec)).2⟩) ?_ ?_
      · rintro i x y TT H' hx hy ⟨s, hd⟩ hT
        have hi : i < way.length := by
          have := (List.getElem?_eq_some_iff.mp hx).1
          rwa [List.length_map] at this
        obtain rfl : x = .int (way[i] : Nat) := by
          rw [List.getElem?_map, List.getElem?_eq_getElem hi] at hx
          exact (Option.some.inj hx).symm
        obtain rfl : y = .int (is[i]'(by omega)) := by
          rw [List.getElem?_map, List.getElem?_eq_getElem (by omega)] at hy
          exact (Option.some.inj hy).symm
        have st : Same H' (upd H' TT (.tup [.int (way[i] : Nat), .int (is[i]'(by omega))])) := same_upd hT
        have sm := s.trans (Msk.same D H')
        have t1 : toldL L (way.take (i + 1)) (is.take (i + 1)) = toldL L (way.take i) (is.take i) ++ [if way[i] ∈ L then V.int (is[i]'(by omega)) else .non] := by
          unfold toldL
          rw [take_more (List.getElem?_eq_getElem hi), take_more (List.getElem?_eq_getElem (show i < is.length by omega)), List.zip_append (by rw [List.length_take, List.length_take]; omega), List.map_append]; rfl
        have tl : (toldL L (way.take i) (is.take i)).length ≤ 8 := by
          unfold toldL
          rw [List.length_map, List.length_zip, List.length_take]; omega
        have fin : ∀ y : V, y = (if way[i] ∈ L then V.int (is[i]'(by omega)) else .non) → ∃ acc, (upd H' TT (.tup [.int (way[i] : Nat), .int (is[i]'(by omega))])) D = some (.lst acc) ∧ acc.length < sizeLine ∧ Same H (Msk D (upd (upd H' TT (.tup [.int (way[i] : Nat), .int (is[i]'(by omega))])) D (.lst (acc ++ [y])))) ∧ (upd (upd H' TT (.tup [.int (way[i] : Nat), .int (is[i]'(by omega))])) D (.lst (acc ++ [y]))) D = some (.lst (toldL L (way.take (i + 1)) (is.take (i + 1)))) := fun y hy =>
          ⟨_, st _ _ hd, line_lt (by omega), Msk.upd' (s.trans (Msk.mono st)), by rw [upd_same, t1, hy]⟩
        refine ⟨TT, _, rfl, SqT.of upd_same, rfl, _, _, rfl, _, _, rfl, rfl, rfl, tyes ⟨_, rfl, _, rfl, a, _, rfl, .inr (SqT.of (st _ _ (sm _ _ ea))), rfl, flat_nat L, _, rfl, ?_⟩⟩
        rw [if_neg (by decide), in_nat]
        by_cases g : way[i] ∈ L
        · rw [decide_eq_true g]
          exact iteT ⟨_, rfl, fin _ (if_pos g).symm⟩
        · rw [decide_eq_false g]
          exact iteF (fin _ (if_neg g).symm)
      · rintro H' ⟨s, hd⟩
        rw [show min (way.map fun j => V.int (j : Nat)).length (is.map V.int).length = way.length by rw [List.length_map, List.length_map]; omega, List.take_length, List.take_of_length_le (by omega)] at hd
        refine ⟨_, _, rfl, .inl ⟨SqL.of hd, fun u hu => ?_⟩⟩
        exact k u _ ((s.trans (Msk.same D H')).trans (same_upd hu)) upd_same
def spCardsOf (C CW : Addr) : Sp := fun vs H Q _ => ∃ (h p a : Addr) (n : Int) (rds : List D) (rm tm : List Int) (ls : List Lt) (rows its : List (List Int)) (L : List Nat) (so : Str), vs = [.ref p, .ref a, .str so] ∧ SortIts so ls rows its ∧ DayO C CW H h p n rds rm tm ls rows ∧ DayOk rds rm tm ls rows ∧ H a = some (.tup (L.map fun j => V.int (j : Nat))) ∧
  ∀ v' H', Same H H' → CdAt H' h v' L ls rows its → Q v' H'
theorem ok_cards_of (T : Tx K mg) : FnOk P w K mg base CX0 2 T.cards_of.f T.cards_of.fd ["day", "lot", "sort"] (spCardsOf T.Day.C T.Web.C) := by
  refine T.cards_of.F.ok sc_cards_of (fun vs H Q E h => ?_) (fun cdv A outer s H vs Q E hr h => ?_)
  · obtain ⟨_, _, _, _, _, _, _, _, _, _, _, _, rfl, _⟩ := h
    rfl
  · obtain ⟨h, p, a, n, rds, rm, tm, ls, rows, its, L, so, rfl, si, O, ok, ea, kq⟩ := h
    obtain ⟨dx, fs, pw, v2, v3, ep, l100, fw, fl, fh, W, r2, r3⟩ := O.ex
    obtain ⟨q, xs, rfl, eq, lx, at_⟩ := lts_at r2
    obtain ⟨b, ys, rfl, er, ly, rat⟩ := rows_at r3
    have ll : rows.length = ls.length := ok.n.1
    have l60 := ok.l
    rcases si with ⟨rfl, hi⟩ | ⟨rfl, hi⟩ <;> subst its
    · refine ⟨_, (pss_cons (ps_set (i := 3) sc_cards_of.nd rfl (Or.inl rfl) (pe_ifExp (pt_cmpR op_eq (pv 2) pe_str (nomark _)) (pe_call (ok_turns_of T) (hr.mono (by decide)) rfl T.turns_of.g T.turns_of.F.kp T.turns_of.b .nil pass0 (pa_cons (pv 0) pa_nil)) (pe_fld (pv 0) rfl)))
      (pss_cons (ps_set (i := 4) sc_cards_of.nd rfl (Or.inl rfl) (pe_lst pa_nil))
      (pss_cons (ps_for PassesOwn.never rfl (pi_zip3 (by rfl) T.n_zip (pa_cons (pe_fld (pv 0) rfl) (pa_cons (pe_fld (pv 0) rfl) (pa_cons (pv 3) pa_nil)))) (pg_tup (by rfl) (pgs_cons (by exact (pg_tup (by rfl) (pgs_cons (pg_name (i := 5) sc_cards_of.nd rfl (Or.inl rfl)) (pgs_cons (pg_name (i := 6) sc_cards_of.nd rfl (Or.inl rfl)) pgs_nil)))) (pgs_cons (pg_name (i := 7) sc_cards_of.nd rfl (Or.inl rfl)) (pgs_cons (pg_name (i := 8) sc_cards_of.nd rfl (Or.inl rfl)) pgs_nil))))
      (pss_one (ps_expr (pe_bm PySem.F.plainAttrs_list PySem.F.slot_list_append PySem.F.type_list_append mt_append (pv 4) (pa_cons (pe_tup (pa_cons (pv 5) (pa_cons (pv 6) (pa_cons (pe_ix ix_tup (pv 7) (pe_un un_neg pe_int) (fun _ _ => rfl)) (pa_cons (pe_call (ok_told_of T) (hr.mono (by decide)) rfl T.told_of.g T.told_of.F.kp T.told_of.b .nil pass0 (pa_cons (pv 1) (pa_cons (pv 5) (pa_cons (pv 8) pa_nil)))) pa_nil))))) pa_nil)))))
      (pss_one (ps_ret (pe_callTy call_tuple_of (by rfl) T.n_tuple (by decide +kernel) (pa_cons (pv 4) pa_nil))))))), ?_⟩
      refine ⟨_, rfl, rfl, _, rfl, ?_⟩
      rw [hours_ne]
      refine iteF ⟨_, rfl, p, T.Day.C, dx, _, _, rfl, ep, T.Day.cl, T.Day.no _ (by simp), fh, ?_⟩
      refine ⟨by show 0 ≤ sizeLine; decide, fun F hF => ?_⟩
      have m0 : Same H (Msk F (upd H F (.lst []))) := Msk.of hF (same_upd hF)
      refine ⟨_, rfl, p, T.Day.C, dx, _, _, rfl, (Msk.inv (m0 _ _ ep)).2, T.Day.cl, T.Day.no _ (by simp), fl, _, rfl, p, T.Day.C, dx, _, _, rfl, (Msk.inv (m0 _ _ ep)).2, T.Day.cl, T.Day.no _ (by simp), fh, _, rfl, false, false, false, q, b, b, xs, ys, ys, rfl, SqT.of (Msk.inv (m0 _ _ eq)).2, SqT.of (Msk.inv (m0 _ _ er)).2, SqT.of (Msk.inv (m0 _ _ er)).2, ?_⟩
      refine for_zip3 (k1 := false) (k2 := false) (k3 := false) (xs := xs) (ys := ys) (zs := ys) (by omega) (by omega) (fun i σ' H' => ∃ (o5 o6 o7 o8 : Option V) (zs : List V), σ' = [some (.ref p), some (.ref a), some (.str "hours"), some (.ref b), some (.ref F), o5, o6, o7, o8] ∧ Same H (Msk F H') ∧ H' F = some (.lst zs) ∧ zs.length = i ∧
          ∀ (k : Nat) (l : Lt) (row : List Int), k < i → ls[k]? = some l → rows[k]? = some row → ∃ x, zs[k]? = some x ∧ CdOne (Msk F H') h x L l row row)
        ⟨_, _, _, _, [], rfl, m0, upd_same, rfl, fun k l row hk => by omega⟩ (fun i σ' H' ⟨_, _, _, _, _, _, s, _⟩ => ⟨SqT.of (Msk.inv (s _ _ eq)).2, SqT.of (Msk.inv (s _ _ er)).2, SqT.of (Msk.inv (s _ _ er)).2⟩) ?_ ?_
      · rintro i x y z TT σ' H1 hx hy hz hT ⟨o5, o6, o7, o8, zs, rfl, s1, eF, lz, fz⟩
        have hi : i < ls.length := by rw [← lx]; exact (List.getElem?_eq_some_iff.mp hx).1
        obtain ⟨l, el⟩ : ∃ l, ls[i]? = some l := ⟨_, List.getElem?_eq_getElem hi⟩
        obtain ⟨r, er'⟩ : ∃ r, rows[i]? = some r := ⟨_, List.getElem?_eq_getElem (by omega)⟩
        obtain ⟨x', ex', rx⟩ := at_ i l el
        rw [hx] at ex'
        cases ex'
        obtain ⟨b2, eb2, ey⟩ := rat i r er'
        rw [hz] at hy
        cases hy
        rw [hz] at eb2
        cases eb2
        have lr : r.length = l.1.length := ok.n.2 i l r el er'
        obtain ⟨oo1, oo2, oo3, _⟩ := ok.o.h l (List.mem_of_getElem? el)
        have st : Same H1 (upd H1 TT (.tup [x, .ref b2, .ref b2])) := same_upd hT
        have eT : (upd H1 TT (.tup [x, .ref b2, .ref b2])) TT = some (.tup [x, .ref b2, .ref b2]) := upd_same
        generalize upd H1 TT (.tup [x, .ref b2, .ref b2]) = H2 at st eT ⊢
        have s2 : Same H (Msk F H2) := s1.trans (Msk.mono st)
        have s02 : Same H H2 := s2.trans (Msk.same F H2)
        have eF2 := st _ _ eF
        obtain ⟨ql, al, rfl, eql, eal⟩ := lt_inv (rx.same s02)
        have rd : (r.map V.int)[(r.map V.int).length - 1]? = some (V.int (lastOf r)) := by
          rw [List.length_map]; exact int_at _ (by omega)
        refine ⟨TT, _, rfl, SqT.of eT, rfl, _, _, rfl, ql, _, rfl, SqT.of eql, rfl, _, _, rfl, _, _, rfl, rfl, _, _, rfl, _, _, rfl, rfl, ?_⟩
        refine ⟨_, rfl, .inl ⟨rfl, _, SqL.of eF2⟩, _, rfl, _, rfl, _, rfl, _, rfl, b2, _, -1, _, rfl, rfl, SqT.of (s02 _ _ ey), (atI_end (by rw [List.length_map]; omega)).trans rd, _, rfl, _, rfl, _, rfl, a, al, b2, L, l.1, r, rfl, s02 _ _ ea, eal, .inl (s02 _ _ ey), lr, oo2, fun u H3 s3 eu => ?_⟩
        refine ⟨by show 4 ≤ sizeLine; decide, fun c hc => ?_⟩
        have sc : Same H3 (upd H3 c (.tup [.ref al, .int l.2, .int (lastOf r), .ref u])) := same_upd hc
        have ec : (upd H3 c (.tup [.ref al, .int l.2, .int (lastOf r), .ref u])) c = some (.tup [.ref al, .int l.2, .int (lastOf r), .ref u]) := upd_same
        generalize upd H3 c (.tup [.ref al, .int l.2, .int (lastOf r), .ref u]) = H4 at sc ec ⊢
        have s24 := s3.trans sc
        have eF4 := s24 _ _ eF2
        have nt : ∀ {b : Addr} {ys : List V}, H4 b = some (.tup ys) → b ≠ F := fun e z => by subst z; rw [eF4] at e; cases e
        have mS : Same (Msk F H4) (Msk F (upd H4 F (.lst (zs ++ [.ref c])))) := Msk.upd' (Same.refl _)
        refine ⟨F, zs, .ref c, rfl, rfl, eF4, line_lt (by omega), ?_⟩
        refine ⟨_, _, _, _, zs ++ [.ref c], rfl, (s2.trans (Msk.mono s24)).trans mS, upd_same, by rw [List.length_append, lz]; rfl, fun k' l' row' hk e1 e2 => ?_⟩
        by_cases hk2 : k' < i
        · obtain ⟨x', q1, q2⟩ := fz k' l' row' hk2 e1 e2
          exact ⟨x', by rw [List.getElem?_append_left (by omega)]; exact q1, ((q2.same (Msk.mono st)).same (Msk.mono s24)).same mS⟩
        · have : k' = i := by omega
          subst this
          rw [el] at e1
          rw [er'] at e2
          cases e1
          cases e2
          refine ⟨.ref c, by rw [List.getElem?_append_right (by omega), lz, Nat.sub_self]; rfl, ?_⟩
          have ea4 := s24 _ _ eal
          have eu4 := sc _ _ eu
          exact CdOne.same ⟨c, .ref al, u, rfl, Msk.mk (nt ec) ec, nD_mk (Msk.mk (nt ea4) ea4) (by omega), Msk.mk (nt eu4) eu4⟩ mS
      · rintro σ' H1 ⟨o5, o6, o7, o8, zs, rfl, s1, eF, lz, fz⟩
        refine ⟨_, rfl, F, _, rfl, .inl ⟨SqL.of eF, fun c hc => ?_⟩⟩
        have sc : Same H1 (upd H1 c (.tup zs)) := same_upd hc
        refine kq (.ref c) _ ((s1.trans (Msk.same F H1)).trans sc) ⟨c, zs, rfl, upd_same, by omega, fun k' l' row' is' e1 e2 e3 => ?_⟩
        rw [e2] at e3
        cases e3
        have hk : k' < ls.length := (List.getElem?_eq_some_iff.mp e1).1
        obtain ⟨x, q1, q2⟩ := fz k' l' row' (by omega) e1 e2
        exact ⟨x, q1, (q2.same (Msk.same F H1)).same sc⟩
    · refine ⟨_, (pss_cons (ps_set (i := 3) sc_cards_of.nd rfl (Or.inl rfl) (pe_ifExp (pt_cmpR op_eq (pv 2) pe_str (nomark _)) (pe_call (ok_turns_of T) (hr.mono (by decide)) rfl T.turns_of.g T.turns_of.F.kp T.turns_of.b .nil pass0 (pa_cons (pv 0) pa_nil)) (pe_fld (pv 0) rfl)))
      (pss_cons (ps_set (i := 4) sc_cards_of.nd rfl (Or.inl rfl) (pe_lst pa_nil))
      (pss_cons (ps_for PassesOwn.never rfl (pi_zip3 (by rfl) T.n_zip (pa_cons (pe_fld (pv 0) rfl) (pa_cons (pe_fld (pv 0) rfl) (pa_cons (pv 3) pa_nil)))) (pg_tup (by rfl) (pgs_cons (by exact (pg_tup (by rfl) (pgs_cons (pg_name (i := 5) sc_cards_of.nd rfl (Or.inl rfl)) (pgs_cons (pg_name (i := 6) sc_cards_of.nd rfl (Or.inl rfl)) pgs_nil)))) (pgs_cons (pg_name (i := 7) sc_cards_of.nd rfl (Or.inl rfl)) (pgs_cons (pg_name (i := 8) sc_cards_of.nd rfl (Or.inl rfl)) pgs_nil))))
      (pss_one (ps_expr (pe_bm PySem.F.plainAttrs_list PySem.F.slot_list_append PySem.F.type_list_append mt_append (pv 4) (pa_cons (pe_tup (pa_cons (pv 5) (pa_cons (pv 6) (pa_cons (pe_ix ix_tup (pv 7) (pe_un un_neg pe_int) (fun _ _ => rfl)) (pa_cons (pe_call (ok_told_of T) (hr.mono (by decide)) rfl T.told_of.g T.told_of.F.kp T.told_of.b .nil pass0 (pa_cons (pv 1) (pa_cons (pv 5) (pa_cons (pv 8) pa_nil)))) pa_nil))))) pa_nil)))))
      (pss_one (ps_ret (pe_callTy call_tuple_of (by rfl) T.n_tuple (by decide +kernel) (pa_cons (pv 4) pa_nil))))))), ?_⟩
      refine ⟨_, rfl, rfl, _, rfl, ?_⟩
      rw [turns_eq]
      refine iteT ⟨_, rfl, h, p, n, rds, rm, tm, ls, rows, rfl, O, ok, fun G H0 S s0 so gr => ?_⟩
      obtain rfl := srtC_eq so
      obtain ⟨as, eG, lG, fG⟩ := gr
      rw [itsOf_len] at lG
      have ep := s0 _ _ ep
      have eq := s0 _ _ eq
      have er := s0 _ _ er
      have ea := s0 _ _ ea
      have at_ : ∀ (k : Nat) (l : Lt), ls[k]? = some l → ∃ x, xs[k]? = some x ∧ Rp H0 h x (ltD l) := fun k l e => let ⟨x, g1, g2⟩ := at_ k l e; ⟨x, g1, g2.same s0⟩
      have rat : ∀ (k : Nat) (r : List Int), rows[k]? = some r → ∃ b, ys[k]? = some (.ref b) ∧ H0 b = some (.tup (r.map V.int)) := fun k r e => let ⟨x, g1, g2⟩ := rat k r e; ⟨x, g1, s0 _ _ g2⟩
      refine ⟨by show 0 ≤ sizeLine; decide, fun F hF => ?_⟩
      have m0 : Same H0 (Msk F (upd H0 F (.lst []))) := Msk.of hF (same_upd hF)
      refine ⟨_, rfl, p, T.Day.C, dx, _, _, rfl, (Msk.inv (m0 _ _ ep)).2, T.Day.cl, T.Day.no _ (by simp), fl, _, rfl, p, T.Day.C, dx, _, _, rfl, (Msk.inv (m0 _ _ ep)).2, T.Day.cl, T.Day.no _ (by simp), fh, _, rfl, false, false, true, q, b, G, xs, ys, as.map V.ref, rfl, SqT.of (Msk.inv (m0 _ _ eq)).2, SqT.of (Msk.inv (m0 _ _ er)).2, SqL.of (Msk.inv (m0 _ _ eG)).2, ?_⟩
      refine for_zip3 (k1 := false) (k2 := false) (k3 := true) (xs := xs) (ys := ys) (zs := as.map V.ref) (by omega) (by rw [List.length_map]; omega) (fun i σ' H' => ∃ (o5 o6 o7 o8 : Option V) (zs : List V), σ' = [some (.ref p), some (.ref a), some (.str "turns"), some (.ref G), some (.ref F), o5, o6, o7, o8] ∧ Same H0 (Msk F H') ∧ H' F = some (.lst zs) ∧ zs.length = i ∧
          ∀ (k : Nat) (l : Lt) (row : List Int), k < i → ls[k]? = some l → rows[k]? = some row → ∃ x, zs[k]? = some x ∧ CdOne (Msk F H') h x L l row ((List.range l.1.length).map fun p => ((rk (srtC (pAll ls rows ls.length)) (pAt k l row p) : Nat) : Int)))
        ⟨_, _, _, _, [], rfl, m0, upd_same, rfl, fun k l row hk => by omega⟩ (fun i σ' H' ⟨_, _, _, _, _, _, s, _⟩ => ⟨SqT.of (Msk.inv (s _ _ eq)).2, SqT.of (Msk.inv (s _ _ er)).2, SqL.of (Msk.inv (s _ _ eG)).2⟩) ?_ ?_
      · rintro i x y z TT σ' H1 hx hy hz hT ⟨o5, o6, o7, o8, zs, rfl, s1, eF, lz, fz⟩
        have hi : i < ls.length := by rw [← lx]; exact (List.getElem?_eq_some_iff.mp hx).1
        obtain ⟨l, el⟩ : ∃ l, ls[i]? = some l := ⟨_, List.getElem?_eq_getElem hi⟩
        obtain ⟨r, er'⟩ : ∃ r, rows[i]? = some r := ⟨_, List.getElem?_eq_getElem (by omega)⟩
        obtain ⟨x', ex', rx⟩ := at_ i l el
        rw [hx] at ex'
        cases ex'
        obtain ⟨b2, eb2, ey⟩ := rat i r er'
        rw [hy] at eb2
        cases eb2
        obtain ⟨g, eg, hg⟩ := fG i _ (itsOf_at el er')
        rw [List.getElem?_map, eg] at hz
        obtain rfl := (Option.some.inj hz).symm
        have lr : r.length = l.1.length := ok.n.2 i l r el er'
        obtain ⟨oo1, oo2, oo3, _⟩ := ok.o.h l (List.mem_of_getElem? el)
        have st : Same H1 (upd H1 TT (.tup [x, .ref b2, .ref g])) := same_upd hT
        have eT : (upd H1 TT (.tup [x, .ref b2, .ref g])) TT = some (.tup [x, .ref b2, .ref g]) := upd_same
        generalize upd H1 TT (.tup [x, .ref b2, .ref g]) = H2 at st eT ⊢
        have s2 : Same H0 (Msk F H2) := s1.trans (Msk.mono st)
        have s02 : Same H0 H2 := s2.trans (Msk.same F H2)
        have eF2 := st _ _ eF
        obtain ⟨ql, al, rfl, eql, eal⟩ := lt_inv (rx.same s02)
        have rd : (r.map V.int)[(r.map V.int).length - 1]? = some (V.int (lastOf r)) := by
          rw [List.length_map]; exact int_at _ (by omega)
        refine ⟨TT, _, rfl, SqT.of eT, rfl, _, _, rfl, ql, _, rfl, SqT.of eql, rfl, _, _, rfl, _, _, rfl, rfl, _, _, rfl, _, _, rfl, rfl, ?_⟩
        refine ⟨_, rfl, .inl ⟨rfl, _, SqL.of eF2⟩, _, rfl, _, rfl, _, rfl, _, rfl, b2, _, -1, _, rfl, rfl, SqT.of (s02 _ _ ey), (atI_end (by rw [List.length_map]; omega)).trans rd, _, rfl, _, rfl, _, rfl, a, al, g, L, l.1, _, rfl, s02 _ _ ea, eal, .inr (s02 _ _ hg), by rw [List.length_map, List.length_range], oo2, fun u H3 s3 eu => ?_⟩
        refine ⟨by show 4 ≤ sizeLine; decide, fun c hc => ?_⟩
        have sc : Same H3 (upd H3 c (.tup [.ref al, .int l.2, .int (lastOf r), .ref u])) := same_upd hc
        have ec : (upd H3 c (.tup [.ref al, .int l.2, .int (lastOf r), .ref u])) c = some (.tup [.ref al, .int l.2, .int (lastOf r), .ref u]) := upd_same
        generalize upd H3 c (.tup [.ref al, .int l.2, .int (lastOf r), .ref u]) = H4 at sc ec ⊢
        have s24 := s3.trans sc
        have eF4 := s24 _ _ eF2
        have nt : ∀ {b : Addr} {ys : List V}, H4 b = some (.tup ys) → b ≠ F := fun e z => by subst z; rw [eF4] at e; cases e
        have mS : Same (Msk F H4) (Msk F (upd H4 F (.lst (zs ++ [.ref c])))) := Msk.upd' (Same.refl _)
        refine ⟨F, zs, .ref c, rfl, rfl, eF4, line_lt (by omega), ?_⟩
        refine ⟨_, _, _, _, zs ++ [.ref c], rfl, (s2.trans (Msk.mono s24)).trans mS, upd_same, by rw [List.length_append, lz]; rfl, fun k' l' row' hk e1 e2 => ?_⟩
        by_cases hk2 : k' < i
        · obtain ⟨x', q1, q2⟩ := fz k' l' row' hk2 e1 e2
          exact ⟨x', by rw [List.getElem?_append_left (by omega)]; exact q1, ((q2.same (Msk.mono st)).same (Msk.mono s24)).same mS⟩
        · have : k' = i := by omega
          subst this
          rw [el] at e1
          rw [er'] at e2
          cases e1
          cases e2
          refine ⟨.ref c, by rw [List.getElem?_append_right (by omega), lz, Nat.sub_self]; rfl, ?_⟩
          have ea4 := s24 _ _ eal
          have eu4 := sc _ _ eu
          exact CdOne.same ⟨c, .ref al, u, rfl, Msk.mk (nt ec) ec, nD_mk (Msk.mk (nt ea4) ea4) (by omega), Msk.mk (nt eu4) eu4⟩ mS
      · rintro σ' H1 ⟨o5, o6, o7, o8, zs, rfl, s1, eF, lz, fz⟩
        refine ⟨_, rfl, F, _, rfl, .inl ⟨SqL.of eF, fun c hc => ?_⟩⟩
        have sc : Same H1 (upd H1 c (.tup zs)) := same_upd hc
        refine kq (.ref c) _ ((s0.trans (s1.trans (Msk.same F H1))).trans sc) ⟨c, zs, rfl, upd_same, by omega, fun k' l' row' is' e1 e2 e3 => ?_⟩
        unfold itsC at e3
        rw [itsOf_at e1 e2] at e3
        cases e3
        have hk : k' < ls.length := (List.getElem?_eq_some_iff.mp e1).1
        obtain ⟨x, q1, q2⟩ := fz k' l' row' (by omega) e1 e2
        exact ⟨x, q1, (q2.same (Msk.same F H1)).same sc⟩
end
end Hc


set_option Elab.async false
set_option linter.all false
set_option maxRecDepth 100000
set_option maxHeartbeats 4000000
set_option autoImplicit false
namespace Hc
open PySem L2
theorem webF_ofT {H : Hp} {h : Addr} {v : V} {d : D} {towns most : Int} (r : Rp H h v d) (w : WebD towns most d) (ht : towns ≤ 12) (hm : most ≤ 24) : ∃ n rds rm tm, WebF H h v n rds rm tm ∧ (rds.length : Int) ≤ most ∧ n ≤ towns := by
  obtain ⟨n, ds, rm, tm, rfl, h1, h2, h3, h4, h5, h6, h7⟩ := w.ex
  obtain ⟨rs, rfl, r1, r2⟩ := btw_inv h6
  obtain ⟨ts, rfl, t1, t2⟩ := btw_inv h7
  exact ⟨n, ds, rs, ts, ⟨r, h1, by omega, h5, h3, by omega, by omega, by omega, r2, t2⟩, h4, h2⟩
theorem lot_ok {rds : List D} {L : List Nat} (h1 : ∀ j ∈ L, j < rds.length) (h2 : L.Pairwise (· < ·)) : isLot rds (nD L) = true := by
  show isLot rds (.tup (L.map fun j => .int (j : Nat))) = true
  rw [isLot_tup, Bool.and_eq_true]
  constructor
  · rw [List.all_eq_true]
    intro d hd
    obtain ⟨j, hj, rfl⟩ := List.mem_map.mp hd
    have := h1 j hj
    exact btw_of (by omega) (by omega)
  · rw [nums_map]
    unfold adj
    rw [List.all_eq_true, List.length_map]
    intro j hj
    have hj := List.mem_range.mp hj
    have a1 : j < L.length := by omega
    have a2 : j + 1 < L.length := by omega
    rw [getD_map L a1, getD_map L a2]
    have := (List.pairwise_iff_getElem.mp h2) j (j + 1) a1 a2 (Nat.lt_succ_self j)
    exact decide_eq_true (by omega)
theorem But.updN {h : Addr} {H H' : Hp} (x : But h H H') {D : Addr} (hD : H D = none) {o : HO} : But h H (L2.upd H' D o) := fun b u e n => by
  rw [upd_ne (ne_of_none e hD)]
  exact x _ _ e n
theorem wTot_le {k : Nat} : ∀ {ls : List Lt}, (∀ l ∈ ls, l.1.length ≤ k) → wTot ls ≤ k * ls.length
  | [], _ => Nat.zero_le _
  | l :: ls, h => by
    have h1 := h l (List.mem_cons_self ..)
    have h2 := wTot_le (k := k) (ls := ls) fun x hx => h x (List.mem_cons_of_mem _ hx)
    unfold wTot at h2 ⊢
    rw [List.map_cons, List.sum_cons, List.length_cons, Nat.mul_succ]; omega
section
variable {P : Program} {w : World} {K : PySem.W.Frag} {mg : Str → Option Value} {base : Heap}
def spLotL : Sp := fun vs H Q _ => ∃ (h c : Addr) (v : V) (n : Int) (rds : List D) (rm tm : List Int), vs = [.ref h, v] ∧ HandAt H h c ∧ WebF H h v n rds rm tm ∧
  ∀ v' L H', HandAt H' h c → But h H H' → Rp H' h v' (nD L) → L.length ≤ 24 → isLot rds (nD L) = true → Q v' H'
theorem ok__law_lot (T : Tx K mg) : FnOk P w K mg base CX0 2 T._law_lot.f T._law_lot.fd ["_law_hand_here", "_law_web_here"] spLotL := by
  refine T._law_lot.F.ok sc_law_lot (fun vs H Q E h => ?_) (fun cdv A outer s H vs Q E hr h => ?_)
  · obtain ⟨_, _, _, _, _, _, _, rfl, _⟩ := h
    rfl
  · obtain ⟨h, c, v, n, rds, rm, tm, rfl, hA, W, k⟩ := h
    refine ⟨_, (pss_cons (ps_set (i := 2) sc_law_lot.nd rfl (Or.inr rfl) (pe_call (ok__law_draw T) (hr.mono (by decide)) rfl T._law_draw.g T._law_draw.F.kp T._law_draw.b .nil pass0 (pa_cons (pv 0) (pa_cons pe_int pa_nil))))
      (pss_cons (ps_if (pt_cmpR op_eq (pv 2) pe_int (nomark _))
      (pss_one (ps_ret (pe_tup pa_nil)))
      pss_nil)
      (pss_one (ps_ret (pe_callTy call_tuple_of (by rfl) T.n_tuple (by decide +kernel) (pa_cons (pe_lc (own := [("_law_road", 3)]) (g := (gName 3))  rfl sc_law_lot.nd (pi_range1 (by rfl) T.n_range (pa_cons (pe_callB call_len_seq (by rfl) T.n_len (by decide +kernel) (pa_cons (pe_ix ix_tup (pv 1) pe_int (fun _ _ => rfl)) pa_nil)) pa_nil)) (blkOk_by (own := [("_law_road", 3)]) (N := ["_law_hand_here", "_law_web_here", "_law_kind", "_law_road"]) (sc := defScope s_law_lot) (by decide +kernel)) (fun _ _ _ _ _ => (pg_name (i := 3) sc_law_lot.nd rfl (Or.inl rfl))) (fun _ _ _ _ _ => (pts_one (by exact (pt_cmpR op_lt (pe_call (ok__law_draw T) (hr.mono (by decide)) rfl T._law_draw.g T._law_draw.F.kp T._law_draw.b .nil pass0 (pa_cons (pv 0) (pa_cons pe_int pa_nil))) (pv 2) (nomark _))))) (fun _ _ _ _ _ => (by exact (pv 3)))) pa_nil)))))), ?_⟩
    refine ⟨_, rfl, h, c, 4, rfl, hA, by decide, by decide, fun kd H1 _ _ p1 b1 => ?_⟩
    have W1 := W.nl (b1.nl hA.lst)
    refine ⟨_, rfl, rfl, _, rfl, ite2 (fun _ => ?_) (fun _ => ?_)⟩
    · refine ⟨by show 0 ≤ sizeLine; decide, fun q hq => ?_⟩
      have s2 : Same H1 (upd H1 q (.tup [])) := same_upd hq
      exact k (.ref q) [] _ (p1.mono s2) (b1.trans (But.of s2)) (nD_mk upd_same (by simp)) (by simp) (lot_ok (fun _ z => nomatch z) List.Pairwise.nil)
    obtain ⟨pw, xw, rfl, ew, _, ra⟩ := tup_inv W1.r
    cases ra with
    | cons r1 ra =>
    cases ra with
    | cons r2 ra =>
    cases r1
    obtain ⟨pr, xr, rfl, er, _, rr⟩ := tup_inv r2
    have lx := rr.len
    have m1 := W1.l2
    refine ⟨_, rfl, pw, _, 1, _, rfl, rfl, SqT.of ew, atI_nat (j := 1) rfl, pr, _, rfl, .inr (SqT.of er), ?_⟩
    rw [lx]
    refine ⟨((rds.length : Nat) : Int), rfl, by omega, by omega, fun D1 hD1 => ?_⟩
    obtain ⟨d1, d2⟩ := p1.ne hD1
    refine lc_range (lo := 0) (n := ((rds.length : Nat) : Int).toNat) (fun i H' => ∃ L : List Nat, H' D1 = some (.lst (L.map fun j => V.int (j : Nat))) ∧ L.length ≤ i ∧ (∀ j ∈ L, j < i) ∧ L.Pairwise (· < ·) ∧ HandAt H' h c ∧ But h H1 H')
      ⟨[], upd_same, Nat.le_refl _, (fun _ z => nomatch z), List.Pairwise.nil, p1.upd d1 d2, (But.refl h H1).updN hD1⟩ ?_ ?_
    · rintro i H2 hi ⟨L, hd, hl, hL, hp, p2, b2⟩
      refine ⟨rfl, _, rfl, h, c, 4, rfl, p2, by decide, by decide, fun y H3 _ _ p3 b3 => ⟨_, rfl, _, _, rfl, rfl, _, rfl, ite2 (fun _ => ?_) (fun _ => ?_)⟩⟩
      · refine ⟨_, rfl, _, b3 _ _ hd d1, by rw [List.length_map]; exact line_lt (by omega), L ++ [i], ?_, ?_, ?_, ?_, p3.upd d1 d2, (b2.trans b3).updN hD1⟩
        · rw [upd_same, List.map_append, List.map_cons, List.map_nil, Int.zero_add]
        · rw [List.length_append]; show L.length + 1 ≤ i + 1; omega
        · intro j hj
          rcases List.mem_append.mp hj with hj | hj
          · have := hL j hj; omega
          · rw [List.mem_singleton] at hj; omega
        · rw [List.pairwise_append]
          refine ⟨hp, List.pairwise_singleton _ _, fun a ha b hb => ?_⟩
          rw [List.mem_singleton] at hb
          have := hL a ha
          omega
      · exact ⟨L, b3 _ _ hd d1, by omega, (fun j hj => by have := hL j hj; omega), hp, p3, b2.trans b3⟩
    · rintro H2 ⟨L, hd, hl, hL, hp, p2, b2⟩
      refine ⟨_, _, rfl, .inl ⟨SqL.of hd, fun q hq => ?_⟩⟩
      have s3 : Same H2 (upd H2 q (.tup (L.map fun j => V.int (j : Nat)))) := same_upd hq
      exact k (.ref q) L _ (p2.mono s3) (b1.trans (b2.trans (But.of s3))) (nD_mk upd_same (by omega)) (by omega) (lot_ok (fun j hj => by have := hL j hj; omega) hp)
def spDayL : Sp := fun vs H Q _ => ∃ (h c : Addr) (to mo : Int) (m : Nat) (sp : Int), vs = [.ref h, .int to, .int mo, .int (m : Nat), .int sp] ∧ HandAt H h c ∧ m ≤ 60 ∧ 2 ≤ to ∧ to ≤ 12 ∧ 1 ≤ mo ∧ mo ≤ 24 ∧ 1 ≤ sp ∧ sp ≤ 20 ∧
  ∀ p vw vl vh n rds rm tm ls rows H', HandAt H' h c → But h H H' → H' p = some (.tup [vw, vl, vh]) → WebF H' h vw n rds rm tm → Rp H' h vl (ltsD ls) → Rp H' h vh (rowsD rows) → ls.length = m → LsOk rds ls → (∀ l ∈ ls, l.1.length ≤ 5 ∧ l.2 ≤ sp) → HrOk rm tm ls rows → n ≤ to → Q (.ref p) H'
theorem ok__law_day (T : Tx K mg) : FnOk P w K mg base CX0 4 T._law_day.f T._law_day.fd ["_law_hand_here", "_law_towns", "_law_most", "_law_many", "_law_span"] spDayL := by
  refine T._law_day.F.ok sc_law_day (fun vs H Q E h => ?_) (fun cdv A outer s H vs Q E hr h => ?_)
  · obtain ⟨_, _, _, _, _, _, rfl, _⟩ := h
    rfl
  · obtain ⟨h, c, to, mo, m, sp, rfl, hA, hm, to2, to12, mo1, mo24, sp1, sp20, k⟩ := h
    refine ⟨_, (pss_cons (ps_set (i := 5) sc_law_day.nd rfl (Or.inl rfl) (pe_call (ok__law_web T) (hr.mono (by decide)) rfl T._law_web.g T._law_web.F.kp T._law_web.b .nil pass0 (pa_cons (pv 0) (pa_cons (pv 1) (pa_cons (pv 2) pa_nil)))))
      (pss_cons (ps_set (i := 6) sc_law_day.nd rfl (Or.inl rfl) (pe_call (ok__law_letters T) (hr.mono (by decide)) rfl T._law_letters.g T._law_letters.F.kp T._law_letters.b .nil pass0 (pa_cons (pv 0) (pa_cons (pv 5) (pa_cons (pv 3) (pa_cons (pv 4) pa_nil))))))
      (pss_one (ps_ret (pe_tup (pa_cons (pv 5) (pa_cons (pv 6) (pa_cons (pe_call (ok__law_hours T) (hr.mono (by decide)) rfl T._law_hours.g T._law_hours.F.kp T._law_hours.b .nil pass0 (pa_cons (pv 0) (pa_cons (pv 5) (pa_cons (pv 6) pa_nil)))) pa_nil)))))))), ?_⟩
    refine ⟨_, rfl, _, rfl, _, rfl, h, c, to, mo, rfl, hA, by omega, by omega, by omega, by omega, fun v d H1 p1 b1 r1 w1 => ?_⟩
    obtain ⟨n, rds, rm, tm, W1, m5, nto⟩ := webF_ofT r1 w1 (by omega) (by omega)
    refine ⟨_, rfl, _, rfl, _, rfl, _, rfl, h, c, v, n, rds, m, sp, rfl, p1, W1.w, by omega, by omega, by omega, fun vl ls H3 p3 b3 r3 l3 o3 z3 => ?_⟩
    have W3 := W1.nl (b3.nl p1.lst)
    have wt : wTot ls ≤ 300 := by
      have := wTot_le (k := 5) fun l hl => (z3 l hl).1
      omega
    refine ⟨_, rfl, _, rfl, _, rfl, _, rfl, _, rfl, h, c, v, vl, n, rds, rm, tm, ls, rfl, p3, W3, r3, o3, wt, fun l hl => (by have := (z3 l hl).2; omega), by omega, fun vh rows H5 p5 b5 rh ok => ?_⟩
    have n5 := b5.nl p3.lst
    refine ⟨by show 3 ≤ sizeLine; decide, fun q hq => ?_⟩
    have s6 : Same H5 (upd H5 q (.tup [v, vl, vh])) := same_upd hq
    exact k q v vl vh n rds rm tm ls rows _ (p5.mono s6) (b1.trans (b3.trans (b5.trans (But.of s6)))) upd_same ((W3.nl n5).nl (NL.of s6)) ((r3.nl n5 (noL_lts ls)).same s6) (rh.same s6) l3 o3 z3 ok nto
end
/-- the turns of all roads -/
def TurnsX (H : Hp) (b : Addr) (m : Nat) (ls : List Lt) (rows : List (List Int)) : Prop := ∃ xs, H b = some (.lst xs) ∧ xs.length = m ∧ ∀ r, r < m → ∃ a L, xs[r]? = some (.ref a) ∧ RsAt H a L ∧ L.map (·.2) = srtC (tAll ((r : Nat) : Int) ls rows ls.length)
theorem RsAt.msk {H : Hp} {a A : Addr} {zs : List V} {L : List (Addr × List Int)} (x : RsAt H a L) (hA : H A = some (.lst zs)) (n : a ≠ A) : RsAt (Msk A H) a L :=
  ⟨Msk.mk n x.1, fun p hp => ⟨Msk.mk (fun z => by have := (x.2 p hp).1; rw [z, hA] at this; cases this) (x.2 p hp).1, (x.2 p hp).2⟩⟩
theorem tAt_t {rd : Int} {k : Nat} {l : Lt} {r : List Int} {p : Nat} (h : ((l.1.getD p 0 : Nat) : Int) = rd) : tAt rd k l r p = [[r.getD p 0, ((k : Nat) : Int), ((p : Nat) : Int)]] := if_pos h
theorem tAt_f {rd : Int} {k : Nat} {l : Lt} {r : List Int} {p : Nat} (h : ¬ ((l.1.getD p 0 : Nat) : Int) = rd) : tAt rd k l r p = [] := if_neg h
theorem tLt_len (rd : Int) (k : Nat) (l : Lt) (r : List Int) : ∀ m, (tLt rd k l r m).length ≤ m
  | 0 => Nat.le_refl _
  | m + 1 => by
    rw [tLt_succ, List.length_append]
    have := tLt_len rd k l r m
    by_cases h : ((l.1.getD m 0 : Nat) : Int) = rd
    · rw [tAt_t h]; show _ + 1 ≤ _; omega
    · rw [tAt_f h]; show _ + 0 ≤ _; omega
section
variable {P : Program} {w : World} {K : PySem.W.Frag} {mg : Str → Option Value} {base : Heap}
def spTurns : Sp := fun vs H Q _ => ∃ (h : Addr) (v vl vh : V) (n : Int) (rds : List D) (rm tm : List Int) (ls : List Lt) (rows : List (List Int)), vs = [v, vl, vh] ∧ WebF H h v n rds rm tm ∧ Rp H h vl (ltsD ls) ∧ Rp H h vh (rowsD rows) ∧ LenOk ls rows ∧ ls.length ≤ 60 ∧ (∀ l ∈ ls, l.1.length ≤ 8) ∧
  ∀ b H', Same H H' → TurnsX H' b rds.length ls rows → Q (.ref b) H'
end
end Hc


set_option Elab.async false
set_option linter.all false
set_option maxRecDepth 100000
set_option maxHeartbeats 4000000
set_option autoImplicit false
namespace Hc
open PySem L2
/-- a row of ints as data -/
def rwP (p : List Int) : PyData := .tuple (p.map PyData.int)
section
variable {P : Program} {w : World} {K : PySem.W.Frag} {mg : Str → Option Value} {base : Heap}
theorem dp_ints {H : Hp} : ∀ p : List Int, DpAll K H (p.map V.int) (p.map PyData.int)
  | [] => .nil
  | x :: p => .cons (.int x) (dp_ints p)
theorem dp_row {H : Hp} {t : Addr} {p : List Int} (e : H t = some (.tup (p.map V.int))) : Dp K H (.ref t) (rwP p) := .tup (SqT.of e) (dp_ints p)
theorem lay_ints : ∀ p : List Int, PyData.canLayAll0 (p.map PyData.int) = true ∧ PyData.depthAll (p.map PyData.int) ≤ 1
  | [] => ⟨rfl, Nat.zero_le _⟩
  | x :: p => by
    obtain ⟨h1, h2⟩ := lay_ints p
    refine ⟨?_, ?_⟩
    · show (true && PyData.canLayAll0 (p.map PyData.int)) = true
      rw [h1]; rfl
    · show max (PyData.depth (.int x)) (PyData.depthAll (p.map PyData.int)) ≤ 1
      have : PyData.depth (.int x) ≤ 1 := by simp [PyData.depth]
      omega
theorem lay_row (p : List Int) : (rwP p).canLay0 = true ∧ (rwP p).depth ≤ 2 := by
  obtain ⟨h1, h2⟩ := lay_ints p
  refine ⟨h1, ?_⟩
  show PyData.depthAll (p.map PyData.int) + 1 ≤ 2
  omega
theorem lay_rows : ∀ L : List (List Int), PyData.canLayAll0 (L.map rwP) = true ∧ PyData.depthAll (L.map rwP) ≤ 2
  | [] => ⟨rfl, Nat.zero_le _⟩
  | x :: p => by
    obtain ⟨h1, h2⟩ := lay_rows p
    obtain ⟨h3, h4⟩ := lay_row x
    refine ⟨?_, ?_⟩
    · show ((rwP x).canLay0 && PyData.canLayAll0 (p.map rwP)) = true
      rw [h1, h3]; rfl
    · show max (rwP x).depth (PyData.depthAll (p.map rwP)) ≤ 2
      omega
theorem shaped_row (p : List Int) : SeqAt.shaped (rwP p) = true := by
  have h := lay_row p
  show ((rwP p).canLay0 && decide ((rwP p).depth ≤ 64)) = true
  rw [h.1, decide_eq_true (by omega)]; rfl
theorem shaped_rows (L : List (List Int)) : SeqAt.shaped (.list (L.map rwP)) = true := by
  have h := lay_rows L
  show (PyData.canLayAll0 (L.map rwP) && decide (PyData.depthAll (L.map rwP) + 1 ≤ 64)) = true
  rw [h.1, decide_eq_true (by omega)]; rfl
theorem dp_rs {H : Hp} : ∀ {L : List (Addr × List Int)}, (∀ p ∈ L, H p.1 = some (.tup (p.2.map V.int)) ∧ p.2 ≠ []) → DpAll K H (L.map fun p => V.ref p.1) (L.map fun p => rwP p.2)
  | [], _ => .nil
  | p :: L, h => .cons (dp_row (h p (List.mem_cons_self ..)).1) (dp_rs fun q hq => h q (List.mem_cons_of_mem _ hq))
theorem eqv_row (p q : List Int) : PyData.eqv (rwP p) (rwP q) = decide (p = q) := by
  have e : PyData.eqv (rwP p) (rwP q) = PyData.eqvAll (p.map PyData.int) (q.map PyData.int) := by unfold rwP; simp [PyData.eqv]
  rw [e, eqv_ints]
theorem idx_min {p : List Int} : ∀ {M : List (List Int)} {m : Nat}, M[m]? = some p → M.idxOf p ≤ m
  | [], m, h => by simp at h
  | x :: M, 0, h => by
    have : x = p := by simpa using h
    subst this
    rw [List.idxOf_cons_self]; exact Nat.le_refl _
  | x :: M, m + 1, h => by
    by_cases e : x = p
    · subst e
      rw [List.idxOf_cons_self]; omega
    · rw [idx_ne e]
      have := idx_min (M := M) (m := m) (by simpa using h)
      omega
/-- the place of a row in such a list -/
theorem index_rs {H : Hp} {a t : Addr} {L : List (Addr × List Int)} {p0 : List Int} {Q : VK} (x : RsAt H a L) (e : H t = some (.tup (p0.map V.int))) (m : p0 ∈ L.map (·.2)) (k : Q (.int ((L.map (·.2)).idxOf p0 : Nat)) H) : rIndexD K (.ref a) [.ref t] H Q := by
  have sh : SeqAt.shaped (.list (L.map fun p => rwP p.2)) = true := by
    have := shaped_rows (L.map (·.2))
    rwa [List.map_map] at this
  have eL : (L.map fun p => rwP p.2) = (L.map (·.2)).map rwP := by rw [List.map_map]; rfl
  have hj := List.idxOf_lt_length_iff.mpr m
  refine ⟨a, .ref t, rwP p0, _, (L.map (·.2)).idxOf p0, rwP p0, rfl, rfl, .lst (SqL.of x.1) (dp_rs x.2), dp_row e, sh, shaped_row p0, ?_, ?_, ?_, k⟩
  · rw [eL, List.getElem?_map, List.getElem?_eq_getElem hj, List.getElem_idxOf hj]; rfl
  · rw [eqv_row]; exact decide_eq_true rfl
  · intro m' z' hm ez
    rw [eL, List.getElem?_map] at ez
    cases e2 : (L.map (·.2))[m']? with
    | none => rw [e2] at ez; cases ez
    | some q =>
      rw [e2] at ez
      obtain rfl := (Option.some.inj ez).symm
      rw [eqv_row]
      refine decide_eq_false fun z => ?_
      subst z
      have := idx_min e2
      omega
/-- the turn of a passing, two ways -/
theorem turn_eq {ls : List Lt} {rows : List (List Int)} {k p : Nat} {l : Lt} {r : List Int} (e1 : ls[k]? = some l) (e2 : rows[k]? = some r) (hp : p < l.1.length) :
    [r.getD p 0, ((k : Nat) : Int), ((p : Nat) : Int)] ∈ srtC (tAll ((l.1.getD p 0 : Nat) : Int) ls rows ls.length) ∧
    (srtC (tAll ((l.1.getD p 0 : Nat) : Int) ls rows ls.length)).idxOf [r.getD p 0, ((k : Nat) : Int), ((p : Nat) : Int)] = rk (srtC (pAll ls rows ls.length)) (pAt k l r p) := by
  have so := srtC_ok (pAll ls rows ls.length)
  have hk : k < ls.length := (List.getElem?_eq_some_iff.mp e1).1
  have g1 : ls.getD k ([], 0) = l := by rw [List.getD_eq_getElem?_getD, e1]; rfl
  have g2 : rows.getD k [] = r := by rw [List.getD_eq_getElem?_getD, e2]; rfl
  have hm : pAt k l r p ∈ srtC (pAll ls rows ls.length) := so.1.mem_iff.mpr (mem_pAll.mpr ⟨k, p, hk, by rw [g1]; exact hp, by rw [g1, g2]⟩)
  have so2 := SrtOf_road so.1 so.2 ((l.1.getD p 0 : Nat) : Int)
  have e := srtC_eq (A := tAll ((l.1.getD p 0 : Nat) : Int) ls rows ls.length) so2
  rw [← e]
  refine ⟨?_, idx_road (q := pAt k l r p) (road_inj so.1 hm) hm⟩
  unfold ofRoad
  exact List.mem_map.mpr ⟨pAt k l r p, List.mem_filter.mpr ⟨hm, decide_eq_true rfl⟩, rfl⟩
theorem its_take {L : List Nat} {l : Lt} {S : List (List Int)} {k q : Nat} {r : List Int} (hq : q < l.1.length) :
    toldL L (l.1.take (q + 1)) (((List.range l.1.length).map fun p => ((rk S (pAt k l r p) : Nat) : Int)).take (q + 1)) = toldL L (l.1.take q) (((List.range l.1.length).map fun p => ((rk S (pAt k l r p) : Nat) : Int)).take q) ++ [if l.1.getD q 0 ∈ L then V.int ((rk S (pAt k l r q) : Nat) : Int) else .non] := by
  have g1 : l.1[q]? = some (l.1.getD q 0) := by rw [List.getD_eq_getElem?_getD, List.getElem?_eq_getElem hq]; rfl
  have g2 : ((List.range l.1.length).map fun p => ((rk S (pAt k l r p) : Nat) : Int))[q]? = some ((rk S (pAt k l r q) : Nat) : Int) := by rw [List.getElem?_map, List.getElem?_range hq]; rfl
  unfold toldL
  rw [take_more g1, take_more g2, List.zip_append (by rw [List.length_take, List.length_take, List.length_map, List.length_range]), List.map_append]; rfl
def spCardsL : Sp := fun vs H Q _ => ∃ (h : Addr) (v vl vh vt : V) (n : Int) (rds : List D) (rm tm : List Int) (ls : List Lt) (rows its : List (List Int)) (L : List Nat) (so : Str), vs = [v, vl, vh, vt, .str so] ∧ SortIts so ls rows its ∧ WebF H h v n rds rm tm ∧ Rp H h vl (ltsD ls) ∧ Rp H h vh (rowsD rows) ∧ LenOk ls rows ∧ LsOk rds ls ∧ ls.length ≤ 60 ∧ Rp H h vt (nD L) ∧
  ∀ v' H', Same H H' → CdAt H' h v' L ls rows its → Q v' H'
end
end Hc


set_option Elab.async false
set_option linter.all false
set_option pp.maxSteps 600
set_option maxRecDepth 100000
set_option maxHeartbeats 4000000
set_option autoImplicit false
namespace Hc
open PySem L2
/-! ### cards as things -/
def itD (L way : List Nat) (is : List Int) : List D := (way.zip is).map fun p => if p.1 ∈ L then D.int p.2 else .non
def cardD (L : List Nat) (l : Lt) (row is : List Int) : D := .tup [nD l.1, .int l.2, .int (lastOf row), .tup (itD L l.1 is)]
def cdsD (L : List Nat) (ls : List Lt) (rows its : List (List Int)) : List D := (List.range ls.length).map fun k => cardD L (ls.getD k ([], 0)) (rows.getD k []) (its.getD k [])
theorem told_rp {H : Hp} {h : Addr} (L : List Nat) : ∀ (w : List Nat) (is : List Int), RpA H h (toldL L w is) (itD L w is)
  | [], _ => .nil
  | _ :: _, [] => .nil
  | j :: w, i :: is => by
    have ih := told_rp (H := H) (h := h) L w is
    unfold toldL itD at ih ⊢
    rw [List.zip_cons_cons, List.map_cons, List.map_cons]
    refine .cons ?_ ih
    show Rp H h (if j ∈ L then V.int i else .non) (if j ∈ L then D.int i else .non)
    by_cases g : j ∈ L
    · rw [if_pos g, if_pos g]; exact .int i
    · rw [if_neg g, if_neg g]; exact .non
theorem toldL_len {L w : List Nat} {is : List Int} : (toldL L w is).length ≤ w.length := by
  unfold toldL
  rw [List.length_map, List.length_zip]; omega
theorem CdOne.rp {H : Hp} {h : Addr} {x : V} {L : List Nat} {l : Lt} {row is : List Int} (c : CdOne H h x L l row is) (h8 : l.1.length ≤ 1000) : Rp H h x (cardD L l row is) := by
  obtain ⟨t, w, u, rfl, e1, r, e2⟩ := c
  exact .tup e1 (by simp) (.cons r (.cons (.int _) (.cons (.int _) (.cons (.tup e2 (by have := toldL_len (L := L) (w := l.1) (is := is); omega) (told_rp L l.1 is)) .nil))))
theorem rpA_at {H : Hp} {h : Addr} : ∀ {xs : List V} {ds : List D}, xs.length = ds.length → (∀ (k : Nat) (x : V) (d : D), xs[k]? = some x → ds[k]? = some d → Rp H h x d) → RpA H h xs ds
  | [], [], _, _ => .nil
  | [], _ :: _, e, _ => by simp at e
  | _ :: _, [], e, _ => by simp at e
  | x :: xs, d :: ds, e, f => .cons (f 0 x d rfl rfl) (rpA_at (by simpa using e) fun k y d' h1 h2 => f (k + 1) y d' (by simpa using h1) (by simpa using h2))
theorem cdsD_len (L : List Nat) (ls : List Lt) (rows its : List (List Int)) : (cdsD L ls rows its).length = ls.length := by
  unfold cdsD
  rw [List.length_map, List.length_range]
theorem cdsD_at {L : List Nat} {ls : List Lt} {rows its : List (List Int)} {k : Nat} (h : k < ls.length) : (cdsD L ls rows its)[k]? = some (cardD L (ls.getD k ([], 0)) (rows.getD k []) (its.getD k [])) := by
  unfold cdsD
  rw [List.getElem?_map, List.getElem?_range h]; rfl
theorem CdAt.rp {H : Hp} {h : Addr} {v : V} {L : List Nat} {ls : List Lt} {rows its : List (List Int)} (c : CdAt H h v L ls rows its) (hr : rows.length = ls.length) (hi : its.length = ls.length) (h8 : ∀ l ∈ ls, l.1.length ≤ 8) (l60 : ls.length ≤ 1000) : Rp H h v (.tup (cdsD L ls rows its)) := by
  obtain ⟨q, xs, rfl, e, lx, f⟩ := c
  refine .tup e (by omega) (rpA_at (by rw [cdsD_len]; exact lx) fun k x d h1 h2 => ?_)
  have hk : k < ls.length := by rw [← lx]; exact (List.getElem?_eq_some_iff.mp h1).1
  rw [cdsD_at hk] at h2
  obtain rfl := (Option.some.inj h2).symm
  obtain ⟨x', g1, g2⟩ := f k _ _ _ (List.getElem?_eq_getElem hk) (List.getElem?_eq_getElem (show k < rows.length by omega)) (List.getElem?_eq_getElem (show k < its.length by omega))
  rw [h1] at g1
  obtain rfl := Option.some.inj g1
  have q1 : ls.getD k ([], 0) = ls[k] := by rw [List.getD_eq_getElem?_getD, List.getElem?_eq_getElem hk]; rfl
  have q2 : rows.getD k [] = rows[k]'(by omega) := by rw [List.getD_eq_getElem?_getD, List.getElem?_eq_getElem (show k < rows.length by omega)]; rfl
  have q3 : its.getD k [] = its[k]'(by omega) := by rw [List.getD_eq_getElem?_getD, List.getElem?_eq_getElem (show k < its.length by omega)]; rfl
  rw [q1, q2, q3]
  exact g2.rp (by have := h8 ls[k] (List.getElem_mem hk); omega)
theorem isIn_card (L : List Nat) (l : Lt) (row is : List Int) : isIn 2 (cardD L l row is) = true := by
  show (isIn 1 (nD l.1) && (isIn 1 (.int l.2) && (isIn 1 (.int (lastOf row)) && (isIn 1 (.tup (itD L l.1 is)) && true)))) = true
  have h1 : isIn 1 (nD l.1) = true := by
    show (l.1.map fun j => D.int (j : Nat)).all (isIn 0) = true
    rw [List.all_eq_true]
    intro d hd
    obtain ⟨j, _, rfl⟩ := List.mem_map.mp hd
    rfl
  have h2 : isIn 1 (.tup (itD L l.1 is)) = true := by
    show (itD L l.1 is).all (isIn 0) = true
    rw [List.all_eq_true]
    intro d hd
    unfold itD at hd
    obtain ⟨p, _, rfl⟩ := List.mem_map.mp hd
    by_cases g : p.1 ∈ L
    · rw [if_pos g]; rfl
    · rw [if_neg g]; rfl
  rw [h1, h2]; rfl
theorem isIn_cds (L : List Nat) (ls : List Lt) (rows its : List (List Int)) : (cdsD L ls rows its).all (isIn 2) = true := by
  rw [List.all_eq_true]
  intro d hd
  unfold cdsD at hd
  obtain ⟨k, _, rfl⟩ := List.mem_map.mp hd
  exact isIn_card _ _ _ _
end Hc


set_option Elab.async false
set_option linter.all false
set_option pp.maxSteps 600
set_option maxRecDepth 100000
set_option maxHeartbeats 4000000
set_option autoImplicit false
namespace Hc
open PySem L2
abbrev rLeS : R2 := rI0 fun i j => .bl (decide (i ≤ j))
def isFrom (lo : Int) : D → Bool | .int i => decide (lo ≤ i) | _ => false
abbrev rIsNo : R2 := fun x y H Q => y = .non ∧ Q (.bl (decide (x = .non))) H
def isNon : D → Bool | .non => true | _ => false
/-- what a card tells at a place -/
def itemOk (L : List Nat) (j : Nat) (d : D) : Bool := if j ∈ L then isInt d else isNon d
def toldOk (L w : List Nat) : D → Bool
  | .tup ts => decide (ts.length = w.length) && (w.zip ts).all fun p => itemOk L p.1 p.2
  | _ => false
theorem toldOk_tup (L w : List Nat) (ts : List D) : toldOk L w (.tup ts) = (decide (ts.length = w.length) && (w.zip ts).all fun p => itemOk L p.1 p.2) := rfl
section
variable {P : Program} {w : World} {K : PySem.W.Frag} {mg : Str → Option Value} {base : Heap}
def spFrom : Sp := fun vs H Q _ => ∃ (h : Addr) (lo : Int) (v : V) (d : D), vs = [.int lo, v] ∧ Rp H h v d ∧ Q (.bl (isFrom lo d)) H
theorem ok_is_from (T : Tx K mg) : FnOk P w K mg base CX0 2 T.is_from.f T.is_from.fd ["low", "thing"] spFrom := by
  refine T.is_from.F.ok sc_is_from (fun vs H Q E h => ?_) (fun cdv A outer s H vs Q E hr h => ?_)
  · obtain ⟨_, lo, v, d, rfl, _⟩ := h
    rfl
  · obtain ⟨h, lo, v, d, rfl, r, k⟩ := h
    refine ⟨_, (pss_one (ps_ret (pe_and (pe_call (ok_is_integer T) (hr.mono (by decide)) rfl T.is_integer.g T.is_integer.F.kp T.is_integer.b .nil pass0 (pa_cons (pv 1) pa_nil)) (pe_one (pe_cmpR op_le (pv 0) (pv 1) (nomark _)))))), ?_⟩
    refine ⟨_, rfl, h, v, d, rfl, r, _, rfl, ?_⟩
    cases r with
    | int i => exact iteT ⟨_, rfl, _, rfl, _, _, rfl, rfl, k⟩
    | _ => exact iteF k
def spTold1 : Sp := fun vs H Q _ => ∃ (h a b : Addr) (L w : List Nat) (v : V) (d : D), vs = [.ref a, .ref b, v] ∧ H a = some (.tup (L.map fun j => V.int (j : Nat))) ∧ H b = some (.tup (w.map fun j => V.int (j : Nat))) ∧ w.length ≤ 8 ∧ Rp H h v d ∧ ∀ H', Same H H' → Q (.bl (toldOk L w d)) H'
theorem ok_is_told (T : Tx K mg) : FnOk P w K mg base CX0 3 T.is_told.f T.is_told.fd ["lot", "way", "thing"] spTold1 := by
  refine T.is_told.F.ok sc_is_told (fun vs H Q E h => ?_) (fun cdv A outer s H vs Q E hr h => ?_)
  · obtain ⟨_, _, _, _, _, _, _, rfl, _⟩ := h
    rfl
  · obtain ⟨h, a, b, L, way, v, d, rfl, ea, eb, l8, r, k⟩ := h
    refine ⟨_, (pss_one (ps_ret (pe_and (pe_call (ok_is_tuple T) (hr.mono (by decide)) rfl T.is_tuple.g T.is_tuple.F.kp T.is_tuple.b .nil pass0 (pa_cons (pe_callB call_len_seq (by rfl) T.n_len (by decide +kernel) (pa_cons (pv 1) pa_nil)) (pa_cons (pv 2) pa_nil))) (pe_one (pe_callB (cr_all rfl) (by rfl) T.n_all (by decide +kernel) (pa_cons (pe_lc (own := [("road", 3), ("item", 4)]) (g := (gTup K 2 (gCons (gName 3) (gCons (gName 4) gNil)))) (tt := tYes) (te := (tIf (tTest (tOp (rIn K false) (tVar 3) (tVar 0))) (tCall (spThing isInt) [] E0 (tCons (tVar 4) tNil)) (tOp rIsNo (tVar 4) (tC .non)))) rfl sc_is_told.nd (RZ.pi_zipA (by rfl) T.n_zip (pa_cons (pv 1) (pa_cons (pv 2) pa_nil))) (blkOk_by (own := [("road", 3), ("item", 4)]) (N := ["lot", "way", "thing", "road", "item"]) (sc := defScope s_is_told) (by decide +kernel)) (fun _ _ _ _ _ => (pg_tup (by rfl) (pgs_cons (pg_name (i := 3) sc_is_told.nd rfl (Or.inl rfl)) (pgs_cons (pg_name (i := 4) sc_is_told.nd rfl (Or.inl rfl)) pgs_nil)))) (fun _ _ _ _ _ => pts_nil) (fun _ _ _ _ _ => (by exact (pe_ifExp (pt_cmpR op_in_seq (pv 3) (pv 0) (by rfl)) (pe_call (ok_is_integer T) (hr.mono (by decide)) rfl T.is_integer.g T.is_integer.F.kp T.is_integer.b .nil pass0 (pa_cons (pv 4) pa_nil)) (pe_cmpR op_isN (pv 4) pe_non (nomark _)))))) pa_nil)))))), ?_⟩
    refine ⟨_, rfl, b, _, rfl, .inr (SqT.of eb), _, rfl, h, _, v, d, rfl, r, _, rfl, ?_⟩
    rw [List.length_map]
    cases r with
    | @tup q xs ts e z ra =>
      have lx := ra.len
      by_cases g : ts.length = way.length
      · have e1 : isTupN ((way.length : Nat) : Int) (.tup ts) = true := decide_eq_true (by omega)
        rw [e1]
        refine iteT ⟨_, rfl, _, rfl, b, q, _, _, rfl, .inr ⟨SqT.of eb, SqT.of e, fun D hD => ?_⟩⟩
        refine lc_zipT (xs := way.map fun j => V.int (j : Nat)) (ys := xs) (fun i H' => Same H (Msk D H') ∧ H' D = some (.lst ((((way.zip ts).take i).map fun p => itemOk L p.1 p.2).map V.bl))) ⟨Msk.of hD (same_upd hD), upd_same⟩ (fun i H' ⟨s, _⟩ => ⟨SqT.of (Msk.inv (s _ _ eb)).2, SqT.of (Msk.inv (s _ _ e)).2⟩) ?_ ?_
        · rintro i x y TT H' hx hy ⟨s, hd⟩ hT
          have hi : i < way.length := by
            have := (List.getElem?_eq_some_iff.mp hx).1
            rwa [List.length_map] at this
          obtain rfl : x = .int (way[i] : Nat) := by
            rw [List.getElem?_map, List.getElem?_eq_getElem hi] at hx
            exact (Option.some.inj hx).symm
          obtain ⟨d, hd1, ry⟩ := ra.get hy
          have st : Same H' (upd H' TT (.tup [.int (way[i] : Nat), y])) := same_upd hT
          have eT : (upd H' TT (.tup [.int (way[i] : Nat), y])) TT = some (.tup [.int (way[i] : Nat), y]) := upd_same
          generalize upd H' TT (.tup [.int (way[i] : Nat), y]) = H1 at st eT ⊢
          have sm := (s.trans (Msk.same D H')).trans st
          have ez : (way.zip ts)[i]? = some (way[i], d) := by rw [List.getElem?_zip_eq_some]; exact ⟨List.getElem?_eq_getElem hi, hd1⟩
          have lz : ((way.zip ts).take i).length ≤ 8 := by rw [List.length_take, List.length_zip]; omega
          have fin : ∀ c : Bool, c = itemOk L way[i] d → ∃ acc, H1 D = some (.lst acc) ∧ acc.length < sizeLine ∧ Same H (Msk D (upd H1 D (.lst (acc ++ [V.bl c])))) ∧ (upd H1 D (.lst (acc ++ [V.bl c]))) D = some (.lst ((((way.zip ts).take (i + 1)).map fun p => itemOk L p.1 p.2).map V.bl)) := fun c hc => by
            refine ⟨_, st _ _ hd, line_lt (by rw [List.length_map, List.length_map]; omega), Msk.upd' (s.trans (Msk.mono st)), ?_⟩
            rw [upd_same, take_more ez, List.map_append, List.map_append, hc]; rfl
          refine ⟨TT, _, rfl, SqT.of eT, rfl, _, _, rfl, _, _, rfl, rfl, rfl, tyes ⟨_, rfl, _, rfl, a, _, rfl, .inr (SqT.of (sm _ _ ea)), rfl, flat_nat L, _, rfl, ?_⟩⟩
          rw [if_neg (by decide), in_nat]
          by_cases g : way[i] ∈ L
          · rw [decide_eq_true g]
            exact iteT ⟨_, rfl, h, _, d, rfl, ry.same sm, fin _ (if_pos g).symm⟩
          · rw [decide_eq_false g]
            refine iteF ⟨_, rfl, rfl, fin _ ?_⟩
            unfold itemOk
            rw [if_neg g]
            cases ry <;> first | rfl | exact decide_eq_false (by simp)
        · rintro H' ⟨s, hd⟩
          rw [show min (way.map fun j => V.int (j : Nat)).length xs.length = (way.zip ts).length by rw [List.length_map, List.length_zip]; omega, List.take_length] at hd
          refine ⟨_, _, rfl, SqL.of hd, ?_⟩
          have := k H' (s.trans (Msk.same D H'))
          rw [toldOk_tup, decide_eq_true g, Bool.true_and] at this
          rw [List.all_map]
          exact this
      · have e1 : isTupN ((way.length : Nat) : Int) (.tup ts) = false := decide_eq_false (by omega)
        rw [e1]
        refine iteF ?_
        have := k H (Same.refl _)
        rw [toldOk_tup, decide_eq_false g] at this
        exact this
    | _ => exact iteF (k H (Same.refl _))
end
end Hc


set_option Elab.async false
set_option linter.all false
set_option pp.maxSteps 600
set_option maxRecDepth 100000
set_option maxHeartbeats 4000000
set_option autoImplicit false
namespace Hc
open PySem L2
/-- for a, b in zip(t, l): a tuple and a list -/
theorem for_zipM {K : PySem.W.Frag} {a b : Addr} {xs ys : List V} {g : TG} {tb : TS} {D : Ends} {σ : L2.St} {H : Hp} (Pv : Nat → L2.St → Hp → Prop) (h0 : Pv 0 σ H) (hq : ∀ i σ H, Pv i σ H → SqT K H a xs ∧ SqL K H b ys)
    (hs : ∀ (i : Nat) (x y : V) (T : Addr) (σ : L2.St) (H : Hp), xs[i]? = some x → ys[i]? = some y → Pv i σ H → H T = none → g (.ref T) σ (upd H T (.tup [x, y])) fun σ2 H2 => tb { D with nx := Pv (i + 1), ct := Pv (i + 1), bk := D.nx } σ2 H2) (hd : ∀ σ H, Pv (min xs.length ys.length) σ H → D.nx σ H) :
    ∃ W : Nat → Nat → L2.St → Hp → Prop, (∃ m, W 0 m σ H) ∧ ∀ i m σ H, W i m σ H →
      ((ItzM K a b).stop i H ∧ D.nx σ H) ∨ ((ItzM K a b).go i H ∧ ∃ N : L2.St → Hp → Prop, (∀ σ' H', N σ' H' → ∃ m', m' < m ∧ W (i + 1) m' σ' H') ∧ ∀ v H', (ItzM K a b).yld i H v H' → g v σ H' fun σ2 H2 => tb { D with nx := N, ct := N, bk := D.nx } σ2 H2) := by
  refine ⟨fun i m σ H => m = min xs.length ys.length - i ∧ i ≤ min xs.length ys.length ∧ Pv i σ H, ⟨_, rfl, Nat.zero_le _, h0⟩, ?_⟩
  rintro i m σ H ⟨rfl, hi, p⟩
  obtain ⟨qx, qy⟩ := hq i σ H p
  by_cases hlt : i < min xs.length ys.length
  · have h1 : i < xs.length := by omega
    have h2 : i < ys.length := by omega
    refine .inr ⟨⟨xs, ys, _, _, qx, qy, List.getElem?_eq_getElem h1, List.getElem?_eq_getElem h2⟩, Pv (i + 1), fun σ' H' p' => ⟨min xs.length ys.length - (i + 1), by omega, rfl, hlt, p'⟩, fun v H' y => ?_⟩
    obtain ⟨T, x', y', rfl, hT, rfl, f1, f2⟩ := y
    exact hs i x' y' T σ H (f1 xs qx) (f2 ys qy) p hT
  · have e : i = min xs.length ys.length := by omega
    subst e
    exact .inl ⟨⟨xs, ys, qx, qy, by omega, by omega, by omega⟩, hd σ H p⟩
/-! ### hours that a letter alone could have -/
def gapAt (ss : List Int) : Nat → Int
  | 0 => 0
  | k + 1 => ss.getD k 0
/-- what an item makes of the first tick f -/
def stepIt (d : D) (f : Int) : Option Int := match d with | .int i => if i < f then none else some i | _ => some f
/-- the first tick behind k places, none when an hour is too early -/
def firstAt (ss : List Int) (c : Int) (ts : List D) : Nat → Option Int
  | 0 => some c
  | k + 1 => (firstAt ss c ts k).bind fun f => stepIt (ts.getD k .non) (f + gapAt ss k)
def lastOk (d : D) (f hm : Int) : Bool := match d with | .int i => decide (hm = i) | _ => decide (f ≤ hm)
def aloneOk (ss : List Int) (c : Int) (ts : List D) (hm : Int) : Bool := match firstAt ss c ts ts.length with | none => false | some f => lastOk (ts.getD (ts.length - 1) .non) f hm
theorem firstAt_none {ss : List Int} {c : Int} {ts : List D} {k : Nat} (h : firstAt ss c ts k = none) : ∀ d, firstAt ss c ts (k + d) = none
  | 0 => h
  | d + 1 => by
    show (firstAt ss c ts (k + d)).bind _ = none
    rw [firstAt_none h d]; rfl
def Items (ts : List D) : Prop := ∀ d ∈ ts, (∃ i, d = .int i) ∨ d = .non
theorem neg_at {xs : List V} {x : V} (h : xs[xs.length - 1]? = some x) (h1 : 1 ≤ xs.length) : atI xs (-1) = some x := by
  have e : ixN xs.length (-1) = some (xs.length - 1) := by
    unfold ixN
    rw [if_neg (by decide), if_pos (by omega)]
    congr 1
    omega
  unfold atI
  rw [e]
  exact h
theorem stepIt_int {i f : Int} : stepIt (.int i) f = if i < f then none else some i := rfl
theorem stepIt_non {f : Int} : stepIt .non f = some f := rfl
theorem gap_at {ss : List Int} {i : Nat} {y : V} (h : ((0 :: ss).map V.int)[i]? = some y) : y = .int (gapAt ss i) := by
  cases i with
  | zero => exact (Option.some.inj h).symm
  | succ i =>
    rw [List.map_cons, List.getElem?_cons_succ, List.getElem?_map] at h
    cases e : ss[i]? with
    | none => rw [e] at h; cases h
    | some x =>
      rw [e] at h
      obtain rfl := (Option.some.inj h).symm
      show V.int x = .int (ss.getD i 0)
      rw [List.getD_eq_getElem?_getD, e]; rfl
section
variable {P : Program} {w : World} {K : PySem.W.Frag} {mg : Str → Option Value} {base : Heap}
def spAlone : Sp := fun vs H Q _ => ∃ (h a : Addr) (ss : List Int) (c hm : Int) (v : V) (ts : List D), vs = [.ref a, .int c, v, .int hm] ∧ H a = some (.lst (ss.map V.int)) ∧ Rp H h v (.tup ts) ∧ ts.length = ss.length ∧ 1 ≤ ts.length ∧ ts.length ≤ 8 ∧ Items ts ∧ ∀ H', Same H H' → Q (.bl (aloneOk ss c ts hm)) H'
theorem ok_is_alone (T : Tx K mg) : FnOk P w K mg base CX0 1 T.is_alone.f T.is_alone.fd ["steps", "come", "told", "last"] spAlone := by
  refine T.is_alone.F.ok sc_is_alone (fun vs H Q E h => ?_) (fun cdv A outer s H vs Q E hr h => ?_)
  · obtain ⟨_, _, _, _, _, _, _, rfl, _⟩ := h
    rfl
  · obtain ⟨h, a, ss, c, hm, v, ts, rfl, ea, r, ln, l1, l8, it, k⟩ := h
    obtain ⟨q, xs, rfl, e, z, ra⟩ := tup_inv r
    have lx := ra.len
    refine ⟨_, (pss_cons (ps_set (i := 4) sc_is_alone.nd rfl (Or.inl rfl) (pv 1))
      (pss_cons (ps_for PassesOwn.never rfl (pi_zipM (by rfl) T.n_zip (pa_cons (pv 2) (pa_cons (pe_op op_cat (pe_lst (pa_cons pe_int pa_nil)) (pv 0)) pa_nil))) (pg_tup (by rfl) (pgs_cons (pg_name (i := 5) sc_is_alone.nd rfl (Or.inl rfl)) (pgs_cons (pg_name (i := 6) sc_is_alone.nd rfl (Or.inl rfl)) pgs_nil)))
      (pss_cons (ps_aug (i := 4) sc_is_alone.nd rfl (Or.inl rfl) (by exact (pv 6)) ip_add)
      (pss_one (ps_if (pt_cmpR op_notN (pv 5) pe_non (nomark _))
      (pss_cons (ps_if (pt_cmpR op_lt (pv 5) (pv 4) (nomark _))
      (pss_one (ps_ret pe_bl))
      pss_nil)
      (pss_one (ps_set (i := 4) sc_is_alone.nd rfl (Or.inl rfl) (pv 5))))
      pss_nil))))
      (pss_one (ps_ret (pe_ifExp (pt_cmpR op_isN (pe_ix ix_tup (pv 2) (pe_un un_neg pe_int) (fun _ _ => rfl)) pe_non (nomark _)) (pe_cmpR op_ge (pv 3) (pv 4) (nomark _)) (pe_cmpR op_eq (pv 3) (pe_ix ix_tup (pv 2) (pe_un un_neg pe_int) (fun _ _ => rfl)) (nomark _))))))), ?_⟩
    refine ⟨_, rfl, _, rfl, by show 1 ≤ sizeLine; decide, fun B hB => ?_⟩
    have s1 := same_upd (o := .lst [.int 0]) hB
    have e1 : (upd H B (.lst [.int 0])) B = some (.lst [.int 0]) := upd_same
    generalize upd H B (.lst [.int 0]) = H1 at s1 e1 ⊢
    refine ⟨_, rfl, B, a, _, _, rfl, rfl, e1, s1 _ _ ea, by rw [List.length_map]; show 1 + ss.length ≤ sizeLine; exact Nat.le_of_lt (line_lt (by omega)), fun G hG => ?_⟩
    have s2 := same_upd (o := .lst ([.int 0] ++ ss.map V.int)) hG
    have e2 : (upd H1 G (.lst ([.int 0] ++ ss.map V.int))) G = some (.lst ((0 :: ss).map V.int)) := upd_same
    generalize upd H1 G (.lst ([.int 0] ++ ss.map V.int)) = H2 at s2 e2 ⊢
    have e := s2 _ _ (s1 _ _ e)
    have r := (r.same s1).same s2
    have s12 := s1.trans s2
    refine ⟨q, G, _, _, rfl, SqT.of e, SqL.of e2, for_zipM (xs := xs) (ys := (0 :: ss).map V.int) (fun i σ' H' => ∃ (f : Int) (o5 o6 : Option V), σ' = [some (.ref a), some (.int c), some (.ref q), some (.int hm), some (.int f), o5, o6] ∧ Same H2 H' ∧ firstAt ss c ts i = some f)
      ⟨c, _, _, rfl, Same.refl _, rfl⟩ (fun i σ' H' ⟨f, o5, o6, _, s, _⟩ => ⟨SqT.of (s _ _ e), SqL.of (s _ _ e2)⟩) ?_ ?_⟩
    · rintro i x y TT σ' H' hx hy ⟨f, o5, o6, rfl, s, hf⟩ hT
      obtain rfl := gap_at hy
      obtain ⟨d, hd, rx⟩ := ra.get hx
      have hi : i < ts.length := (List.getElem?_eq_some_iff.mp hd).1
      have st : Same H' (upd H' TT (.tup [x, .int (gapAt ss i)])) := same_upd hT
      have eT : (upd H' TT (.tup [x, .int (gapAt ss i)])) TT = some (.tup [x, .int (gapAt ss i)]) := upd_same
      generalize upd H' TT (.tup [x, .int (gapAt ss i)]) = H3 at st eT ⊢
      have gd : ts.getD i .non = d := by rw [List.getD_eq_getElem?_getD, hd]; rfl
      have hn : firstAt ss c ts (i + 1) = stepIt d (f + gapAt ss i) := by
        show (firstAt ss c ts i).bind _ = _
        rw [hf, gd]; rfl
      refine ⟨TT, _, rfl, SqT.of eT, rfl, _, _, rfl, _, _, rfl, rfl, _, rfl, _, rfl, _, _, rfl, rfl, ?_⟩
      rcases it d (List.mem_of_getElem? hd) with ⟨j, rfl⟩ | rfl
      · cases rx
        rw [stepIt_int] at hn
        refine ⟨_, rfl, rfl, _, rfl, iteT ⟨_, rfl, _, rfl, _, _, rfl, rfl, _, rfl, ?_⟩⟩
        by_cases g : j < f + gapAt ss i
        · rw [decide_eq_true g]
          rw [if_pos g] at hn
          refine iteT ?_
          have hz := firstAt_none hn (ts.length - (i + 1))
          rw [show i + 1 + (ts.length - (i + 1)) = ts.length by omega] at hz
          have := k H3 (s12.trans (s.trans st))
          unfold aloneOk at this
          rw [hz] at this
          exact this
        · rw [decide_eq_false g]
          rw [if_neg g] at hn
          exact iteF ⟨_, rfl, _, _, _, rfl, s.trans st, hn⟩
      · cases rx
        rw [stepIt_non] at hn
        refine ⟨_, rfl, rfl, _, rfl, iteF ?_⟩
        exact ⟨_, _, _, rfl, s.trans st, hn⟩
    · rintro σ' H' ⟨f, o5, o6, rfl, s, hf⟩
      rw [show min xs.length ((0 :: ss).map V.int).length = ts.length by rw [List.length_map, List.length_cons]; omega] at hf
      have kk := k H' (s12.trans s)
      unfold aloneOk at kk
      rw [hf] at kk
      have hn : ts.length - 1 < ts.length := by omega
      obtain ⟨x, hx⟩ : ∃ x, xs[xs.length - 1]? = some x := ⟨_, List.getElem?_eq_getElem (by omega)⟩
      obtain ⟨d, hd, rx⟩ := ra.get hx
      rw [lx] at hd
      have gd : ts.getD (ts.length - 1) .non = d := by rw [List.getD_eq_getElem?_getD, hd]; rfl
      rw [gd] at kk
      have ax := neg_at hx (by omega)
      refine ⟨_, rfl, _, rfl, q, xs, _, x, rfl, rfl, SqT.of (s _ _ e), ax, rfl, ?_⟩
      rcases it d (List.mem_of_getElem? hd) with ⟨j, rfl⟩ | rfl
      · cases rx
        refine ⟨_, rfl, iteF ⟨_, rfl, _, rfl, _, rfl, q, xs, _, _, rfl, rfl, SqT.of (s _ _ e), ax, ?_⟩⟩
        refine ⟨rfl, ?_⟩
        rw [int_eqd]
        exact kk
      · cases rx
        exact ⟨_, rfl, iteT ⟨_, rfl, _, rfl, _, _, rfl, rfl, kk⟩⟩
end
end Hc


set_option Elab.async false
set_option linter.all false
set_option pp.maxSteps 600
set_option maxRecDepth 100000
set_option maxHeartbeats 4000000
set_option autoImplicit false
namespace Hc
open PySem L2
def natsD : D → List Nat | .tup ds => ds.map fun d => (num d).toNat | _ => []
def tsOf : D → List D | .tup ts => ts | _ => []
def stepsOf (tm : List Int) (w : List Nat) : List Int := w.map fun j => tm.getD j 0
def turnOk : D → Bool | .int i => decide (0 ≤ i) | _ => true
def turnsOk (ss : List Int) (c : Int) (ts : List D) (hm : Int) : Bool := ts.all turnOk && decide (c + (ss.take (ss.length - 1)).sum ≤ hm)
def restOk (so : Str) (ss : List Int) (c : Int) (ts : List D) (hm : Int) : Bool := if so = "hours" then aloneOk ss c ts hm else turnsOk ss c ts hm
def cardOk4 (rds : List D) (tm : List Int) (L : List Nat) (so : Str) (dw dc dh dt : D) : Bool :=
  isWay rds dw && (isFrom 1 dc && (isInt dh && (toldOk L (natsD dw) dt && restOk so (stepsOf tm (natsD dw)) (num dc) (tsOf dt) (num dh))))
def cardOk (rds : List D) (tm : List Int) (L : List Nat) (so : Str) : D → Bool
  | .tup [dw, dc, dh, dt] => cardOk4 rds tm L so dw dc dh dt
  | _ => false
theorem cardOk_no {rds : List D} {tm : List Int} {L : List Nat} {so : Str} {d : D} (h : isTupN 4 d = false) : cardOk rds tm L so d = false := by
  cases d with
  | tup ts =>
    have : ts.length ≠ 4 := fun z => by
      have e : isTupN 4 (.tup ts) = true := decide_eq_true (by omega)
      rw [e] at h; cases h
    match ts, this with
    | [], _ => rfl
    | [_], _ => rfl
    | [_, _], _ => rfl
    | [_, _, _], _ => rfl
    | [_, _, _, _], z => exact absurd rfl z
    | _ :: _ :: _ :: _ :: _ :: _, _ => rfl
  | _ => rfl
theorem tup4 {d : D} (h : isTupN 4 d = true) : ∃ dw dc dh dt, d = .tup [dw, dc, dh, dt] := by
  cases d with
  | tup ts =>
    have : ts.length = 4 := by have := of_decide_eq_true h; omega
    match ts, this with
    | [a, b, c, d], _ => exact ⟨a, b, c, d, rfl⟩
  | _ => exact Bool.noConfusion h
theorem natsD_nD (ns : List Nat) : natsD (.tup (ns.map fun j => .int (j : Nat))) = ns := by
  show (ns.map fun j => D.int (j : Nat)).map (fun d => (num d).toNat) = ns
  rw [List.map_map]
  exact List.map_id'' (fun j => by show ((j : Nat) : Int).toNat = j; omega) ns
/-- a way is a tuple of roads -/
theorem way_in {H : Hp} {h : Addr} {rds : List D} {v : V} {d : D} (r : Rp H h v d) (e : isWay rds d = true) : ∃ (a : Addr) (w : List Nat), v = .ref a ∧ d = .tup (w.map fun j => .int (j : Nat)) ∧ H a = some (.tup (w.map fun j => V.int (j : Nat))) ∧ 1 ≤ w.length ∧ w.length ≤ 8 ∧ ∀ j ∈ w, j < rds.length := by
  cases r with
  | @tup pa xs ds ee z ra =>
    rw [isWay_tup, Bool.and_eq_true, Bool.and_eq_true, Bool.and_eq_true] at e
    obtain ⟨⟨⟨h1, h2⟩, h3⟩, _⟩ := e
    obtain ⟨ns, rfl, rfl, hn⟩ := roads_in ra h3
    have h1 := of_decide_eq_true h1
    have h2 := of_decide_eq_true h2
    rw [List.length_map] at h1 h2
    exact ⟨pa, ns, rfl, rfl, ee, h1, h2, hn⟩
  | _ => exact Bool.noConfusion e
theorem items_of {L w : List Nat} {ts : List D} (h : toldOk L w (.tup ts) = true) : ts.length = w.length ∧ Items ts := by
  rw [toldOk_tup, Bool.and_eq_true] at h
  have ln := of_decide_eq_true h.1
  refine ⟨ln, fun d hd => ?_⟩
  obtain ⟨k, hk, e⟩ := List.mem_iff_getElem.mp hd
  have hk2 : k < w.length := by omega
  have hz : (w[k], d) ∈ w.zip ts := List.mem_of_getElem? (i := k) (by rw [List.getElem?_zip_eq_some]; exact ⟨List.getElem?_eq_getElem hk2, by rw [List.getElem?_eq_getElem hk, e]⟩)
  have := List.all_eq_true.mp h.2 _ hz
  unfold itemOk at this
  by_cases g : w[k] ∈ L
  · rw [if_pos g] at this
    cases d with
    | int i => exact .inl ⟨i, rfl⟩
    | _ => exact Bool.noConfusion this
  · rw [if_neg g] at this
    cases d with
    | non => exact .inr rfl
    | _ => exact Bool.noConfusion this
section
variable {P : Program} {w : World} {K : PySem.W.Frag} {mg : Str → Option Value} {base : Heap}
def spCard (C : Addr) : Sp := fun vs H Q _ => ∃ (h p al : Addr) (n : Int) (rds : List D) (rm tm : List Int) (L : List Nat) (so : Str) (v : V) (d : D), vs = [.ref p, .ref al, .str so, v] ∧ WebR C H h p n rds rm tm ∧ H al = some (.tup (L.map fun j => V.int (j : Nat))) ∧ (so = "hours" ∨ so = "turns") ∧ Rp H h v d ∧ ∀ H', Same H H' → Q (.bl (cardOk rds tm L so d)) H'
theorem ok_is_card (T : Tx K mg) : FnOk P w K mg base CX0 5 T.is_card.f T.is_card.fd ["web", "lot", "sort", "thing"] (spCard T.Web.C) := by
  refine T.is_card.F.ok sc_is_card (fun vs H Q E h => ?_) (fun cdv A outer s H vs Q E hr h => ?_)
  · obtain ⟨_, _, _, _, _, _, _, _, _, _, _, rfl, _⟩ := h
    rfl
  · obtain ⟨h, p, al, n, rds, rm, tm, L, so, v, d, rfl, W, eL, hso, r, k⟩ := h
    refine ⟨_, (pss_cons (ps_if (pt_not (pt_val (pe_call (ok_is_tuple T) (hr.mono (by decide)) rfl T.is_tuple.g T.is_tuple.F.kp T.is_tuple.b .nil pass0 (pa_cons pe_int (pa_cons (pv 3) pa_nil)))))
      (pss_one (ps_ret pe_bl))
      pss_nil)
      (pss_cons (ps_asg (pv 3) (pg_tup (by rfl) (pgs_cons (pg_name (i := 4) sc_is_card.nd rfl (Or.inl rfl)) (pgs_cons (pg_name (i := 5) sc_is_card.nd rfl (Or.inl rfl)) (pgs_cons (pg_name (i := 6) sc_is_card.nd rfl (Or.inl rfl)) (pgs_cons (pg_name (i := 7) sc_is_card.nd rfl (Or.inl rfl)) pgs_nil))))))
      (pss_cons (ps_if (pt_not (PW.pt (pw_and (pt_val (pe_call (ok_is_way T) (hr.mono (by decide)) rfl T.is_way.g T.is_way.F.kp T.is_way.b .nil pass0 (pa_cons (pv 0) (pa_cons (pv 4) pa_nil)))) (pw_and (pt_val (pe_call (ok_is_from T) (hr.mono (by decide)) rfl T.is_from.g T.is_from.F.kp T.is_from.b .nil pass0 (pa_cons pe_int (pa_cons (pv 5) pa_nil)))) (pw_and (pt_val (pe_call (ok_is_integer T) (hr.mono (by decide)) rfl T.is_integer.g T.is_integer.F.kp T.is_integer.b .nil pass0 (pa_cons (pv 6) pa_nil))) (pw_and1 (pt_val (pe_call (ok_is_told T) (hr.mono (by decide)) rfl T.is_told.g T.is_told.F.kp T.is_told.b .nil pass0 (pa_cons (pv 1) (pa_cons (pv 4) (pa_cons (pv 7) pa_nil)))))))))))
      (pss_one (ps_ret pe_bl))
      pss_nil)
      (pss_cons (ps_setLc (i := 8) (own := [("road", 9)]) (g := (gName 9)) (tt := tYes) (te := (tOp (rIxT K) (tFld K (tVar 0) "times") (tVar 9))) rfl sc_is_card.nd rfl rfl (sw_true rfl rfl rfl (by decide +kernel)) (pi_tup (pv 4)) (blkOk_by (own := [("road", 9)]) (N := ["web", "lot", "sort", "thing", "way", "come", "home", "told", "steps", "road", "turn"]) (sc := defScope s_is_card) (by decide +kernel)) (fun _ _ _ _ _ => (pg_name (i := 9) sc_is_card.nd rfl (Or.inl rfl))) (fun _ _ _ _ _ => pts_nil) (fun _ _ _ _ _ => (by exact (pe_ix ix_tup (pe_fld (pv 0) rfl) (pv 9) (fun _ _ => rfl)))))
      (pss_cons (ps_if (pt_cmpR op_eq (pv 2) pe_str (nomark _))
      (pss_one (ps_ret (pe_call (ok_is_alone T) (hr.mono (by decide)) rfl T.is_alone.g T.is_alone.F.kp T.is_alone.b .nil pass0 (pa_cons (pv 8) (pa_cons (pv 5) (pa_cons (pv 7) (pa_cons (pv 6) pa_nil)))))))
      pss_nil)
      (pss_one (ps_ret (pe_and (pe_callB (cr_all rfl) (by rfl) T.n_all (by decide +kernel) (pa_cons (pe_lc (own := [("turn", 10)]) (g := (gName 10)) (tt := tYes) (te := (tOrV (tOp rIsNo (tVar 10) (tC .non)) (tOp (rI0 fun i j => .bl (decide (j ≤ i))) (tVar 10) (tC (.int 0))))) rfl sc_is_card.nd (pi_tup (pv 7)) (blkOk_by (own := [("turn", 10)]) (N := ["web", "lot", "sort", "thing", "way", "come", "home", "told", "steps", "road", "turn"]) (sc := defScope s_is_card) (by decide +kernel)) (fun _ _ _ _ _ => (pg_name (i := 10) sc_is_card.nd rfl (Or.inl rfl))) (fun _ _ _ _ _ => pts_nil) (fun _ _ _ _ _ => (by exact (pe_or (pe_cmpR op_isN (pv 10) pe_non (nomark _)) (pe_one (pe_cmpR op_ge (pv 10) pe_int (nomark _))))))) pa_nil)) (pe_one (pe_cmpR op_ge (pv 6) (pe_op op_add (pv 5) (pe_callB (cr_sum rfl) (by rfl) T.n_sum (by decide +kernel) (pa_cons (pe_slice sl_list (pv 8) po_none (po_some (pe_un un_neg pe_int))) pa_nil))) (nomark _))))))))))), ?_⟩
    refine ⟨_, rfl, h, 4, v, d, rfl, r, _, rfl, ?_⟩
    cases g4 : isTupN 4 d with
    | false =>
      refine iteT ?_
      have := k H (Same.refl _)
      rw [cardOk_no g4] at this
      exact this
    | true =>
    obtain ⟨dw, dc, dh, dt, rfl⟩ := tup4 g4
    obtain ⟨q, xs, rfl, e, z, ra⟩ := tup_inv r
    cases ra with
    | @cons v1 _ _ _ r1 ra =>
    cases ra with
    | @cons v2 _ _ _ r2 ra =>
    cases ra with
    | @cons v3 _ _ _ r3 ra =>
    cases ra with
    | @cons v4 _ _ _ r4 ra =>
    cases ra
    have k : ∀ H', Same H H' → Q (.bl (cardOk4 rds tm L so dw dc dh dt)) H' := k
    refine iteF ⟨_, rfl, q, _, rfl, SqT.of e, rfl, _, _, rfl, _, _, rfl, _, _, rfl, _, _, rfl, rfl, ?_⟩
    refine ⟨_, rfl, _, rfl, h, p, n, rds, _, dw, rfl, W.o, r1, fun H1 s1 => ⟨_, rfl, ?_⟩⟩
    cases g1 : isWay rds dw with
    | false =>
      refine iteF ?_
      have := k H1 s1
      unfold cardOk4 at this
      rw [g1] at this
      exact this
    | true =>
    refine iteT ⟨_, rfl, h, _, _, dc, rfl, r2.same s1, _, rfl, ?_⟩
    cases g2 : isFrom 1 dc with
    | false =>
      refine iteF ?_
      have := k H1 s1
      unfold cardOk4 at this
      rw [g1, g2] at this
      exact this
    | true =>
    refine iteT ⟨_, rfl, h, _, dh, rfl, r3.same s1, _, rfl, ?_⟩
    cases g3 : isInt dh with
    | false =>
      refine iteF ?_
      have := k H1 s1
      unfold cardOk4 at this
      rw [g1, g2, g3] at this
      exact this
    | true =>
    obtain ⟨aw, way, rfl, rfl, ew, l1, l8, hw⟩ := way_in r1 g1
    refine iteT ⟨_, rfl, _, rfl, _, rfl, h, al, aw, L, way, _, dt, rfl, s1 _ _ eL, s1 _ _ ew, l8, r4.same s1, fun H2 s2 => ⟨_, rfl, ?_⟩⟩
    have s02 := s1.trans s2
    cases g5 : toldOk L way dt with
    | false =>
      refine iteT ?_
      have := k H2 s02
      unfold cardOk4 at this
      rw [g1, g2, g3, natsD_nD, g5] at this
      exact this
    | true =>
    refine iteF ?_
    -- the steps
    obtain ⟨c0, rfl⟩ : ∃ i, dc = .int i := by cases dc <;> first | exact ⟨_, rfl⟩ | exact Bool.noConfusion g2
    obtain ⟨hm, rfl⟩ : ∃ i, dh = .int i := by cases dh <;> first | exact ⟨_, rfl⟩ | exact Bool.noConfusion g3
    obtain ⟨ts, rfl⟩ : ∃ ts, dt = .tup ts := by cases dt <;> first | exact ⟨_, rfl⟩ | exact Bool.noConfusion g5
    obtain ⟨lt, it⟩ := items_of g5
    cases r2
    cases r3
    have k : ∀ H', Same H H' → Q (.bl (restOk so (stepsOf tm way) c0 ts hm)) H' := fun H' s => by
      have := k H' s
      unfold cardOk4 at this
      rw [g1, g2, g3, natsD_nD, g5] at this
      exact this
    clear g1 g2 g3 g4 g5
    obtain ⟨dx, w1, w2, w3, w4, hp, _, _, rt⟩ := (W.same s02).ex
    obtain ⟨pt, xt, rfl, et, zt, rat⟩ := tup_inv rt
    have ext := rat.ints_inv
    refine ⟨_, rfl, aw, rfl, ⟨_, SqT.of (s02 _ _ ew)⟩, fun D hD => ?_⟩
    refine lc_tup (K := K) (a := aw) (xs := way.map fun j => V.int (j : Nat)) (fun i H' => Same H2 (Msk D H') ∧ H' D = some (.lst ((stepsOf tm (way.take i)).map V.int)))
      ⟨Msk.of hD (same_upd hD), upd_same⟩ (fun i H' _ ⟨s, _⟩ => SqT.of (Msk.inv (s _ _ (s02 _ _ ew))).2) ?_ ?_
    · rintro i x H' hx ⟨s, hd⟩
      have sm := s.trans (Msk.same D H')
      have hi : i < way.length := by
        have := (List.getElem?_eq_some_iff.mp hx).1
        rwa [List.length_map] at this
      obtain rfl : x = .int (way[i] : Nat) := by
        rw [List.getElem?_map, List.getElem?_eq_getElem hi] at hx
        exact (Option.some.inj hx).symm
      have hj : way[i] < tm.length := by rw [W.lt]; exact hw _ (List.getElem_mem hi)
      have ej : xt[way[i]]? = some (.int (tm.getD way[i] 0)) := by
        rw [ext, List.getElem?_map, List.getElem?_eq_getElem hj, List.getD_eq_getElem?_getD, List.getElem?_eq_getElem hj]; rfl
      refine ⟨rfl, tyes ⟨_, rfl, p, T.Web.C, dx, _, _, rfl, sm _ _ hp, T.Web.cl, T.Web.no _ (by simp), wF_t _ _ _ _, _, rfl, pt, xt, _, _, rfl, rfl, SqT.of (sm _ _ et), atI_nat ej, _, hd, ?_, Msk.upd' s, ?_⟩⟩
      · unfold stepsOf
        rw [List.length_map, List.length_map, List.length_take]; exact line_lt (by omega)
      · rw [upd_same]
        unfold stepsOf
        rw [take_more (List.getElem?_eq_getElem hi), List.map_append, List.map_append]; rfl
    rintro H3 ⟨s3, eD⟩
    rw [List.length_map, List.take_length] at eD
    have s23 := s3.trans (Msk.same D H3)
    have s03 := s02.trans s23
    have lss : (stepsOf tm way).length = way.length := List.length_map ..
    obtain ⟨qt, yt, rfl, eqt, zqt, rqt⟩ := tup_inv r4
    rcases hso with rfl | rfl
    · refine ⟨_, rfl, rfl, _, rfl, ?_⟩
      rw [show decide (V.str "hours" = V.str "hours") = true by decide +kernel]
      refine iteT ⟨_, rfl, _, rfl, _, rfl, _, rfl, h, D, stepsOf tm way, c0, hm, _, ts, rfl, eD, r4.same s03, by omega, by omega, by omega, it, fun H4 s4 => ?_⟩
      exact k H4 (s03.trans s4)
    · refine ⟨_, rfl, rfl, _, rfl, ?_⟩
      rw [show decide (V.str "turns" = V.str "hours") = false by decide +kernel]
      have kk : ∀ H', Same H H' → Q (.bl (turnsOk (stepsOf tm way) c0 ts hm)) H' := fun H' s => by
        have := k H' s
        unfold restOk at this
        rw [if_neg (by decide +kernel)] at this
        exact this
      refine iteF ⟨_, rfl, _, rfl, ⟨_, SqT.of (s03 _ _ eqt)⟩, fun A2 hA2 => all_tup (s03 _ _ eqt) zqt (rqt.same s03) turnOk hA2 (fun x => rfl) (fun x d H' Q' hd _ rp q => ?_) (fun H4 s4 sl => ?_)⟩
      · rcases it d hd with ⟨i, rfl⟩ | rfl
        · cases rp
          exact ⟨_, rfl, rfl, _, rfl, iteF ⟨_, rfl, _, _, rfl, rfl, q _ (Same.refl _)⟩⟩
        · cases rp
          exact ⟨_, rfl, rfl, _, rfl, iteT (q _ (Same.refl _))⟩
      · refine ⟨_, _, rfl, sl, _, rfl, ?_⟩
        rw [map_all]
        have s04 := s03.trans s4
        cases g : ts.all turnOk with
        | false =>
          refine iteF ?_
          have := kk H4 s04
          unfold turnsOk at this
          rw [g] at this
          exact this
        | true =>
          refine iteT ⟨_, rfl, _, rfl, _, rfl, ?_⟩
          try delta tNoPart
          refine ⟨_, rfl, _, rfl, D, _, rfl, SqL.of (s4 _ _ eD), fun S hS => ?_⟩
          have s5 := same_upd (o := .lst (cutV ((stepsOf tm way).map V.int) none (some (-1)))) hS
          have e5 : (upd H4 S (.lst (cutV ((stepsOf tm way).map V.int) none (some (-1))))) S = some (.lst (((stepsOf tm way).take ((stepsOf tm way).length - 1)).map V.int)) := by rw [upd_same, cut_last, List.length_map, List.map_take]
          refine ⟨S, _, rfl, SqL.of e5, _, _, rfl, rfl, _, _, rfl, rfl, ?_⟩
          have := kk _ (s04.trans s5)
          unfold turnsOk at this
          rw [g, Bool.true_and] at this
          exact this
end
end Hc


set_option Elab.async false
set_option linter.all false
set_option pp.maxSteps 600
set_option maxRecDepth 100000
set_option maxHeartbeats 4000000
set_option autoImplicit false
namespace Hc
open PySem L2
def areCards (rds : List D) (tm : List Int) (L : List Nat) (so : Str) : D → Bool | .tup ts => ts.all (cardOk rds tm L so) | _ => false
section
variable {P : Program} {w : World} {K : PySem.W.Frag} {mg : Str → Option Value} {base : Heap}
def spAre (C CL CS : Addr) : Sp := fun vs H Q E => ∃ (h p : Addr) (n : Int) (rds : List D) (rm tm : List Int) (v s t : V) (d ds dt : D), vs = [.ref p, v, s, t] ∧ WebR C H h p n rds rm tm ∧ Rp H h v d ∧ Rp H h s ds ∧ Rp H h t dt ∧
  (isLot rds d = false → ∀ H', Same H H' → E (.ref CL) none H') ∧ (isLot rds d = true → isSortD ds = false → ∀ H', Same H H' → E (.ref CS) none H') ∧
  (isLot rds d = true → isSortD ds = true → ∃ (L : List Nat) (so : Str), d = nD L ∧ s = .str so ∧ (so = "hours" ∨ so = "turns") ∧ ∀ H', Same H H' → Q (.bl (areCards rds tm L so dt)) H')
theorem ok_are_cards (T : Tx K mg) : FnOk P w K mg base (L2.CX P w) 6 T.are_cards.f T.are_cards.fd ["web", "lot", "sort", "thing"] (spAre T.Web.C T.x_NoLot.C T.x_NoSort.C) := by
  refine T.are_cards.F.okX sc_are_cards (fun vs H Q E h => ?_) (fun cdv A outer s H vs Q E hr h => ?_)
  · obtain ⟨_, _, _, _, _, _, _, _, _, _, _, _, rfl, _⟩ := h
    rfl
  · obtain ⟨h, p, n, rds, rm, tm, v, sv, t, d, ds, dt, rfl, W, r, rs, rt, kl, ks, kq⟩ := h
    refine ⟨_, (pss_cons (ps_expr (pe_callS (ok_check_lot_and_sort T) (hr.mono (by decide)) rfl T.check_lot_and_sort.g T.check_lot_and_sort.F.kp T.check_lot_and_sort.b (fun σ => passAt (takes_of rfl rfl rfl rfl) σ) (pa_cons (pv 0) (pa_cons (pv 1) (pa_cons (pv 2) pa_nil)))))
      (pss_one (ps_ret (pe_and (pe_callB call_isi (by rfl) T.n_isinstance (by decide +kernel) (pa_cons (pv 3) (pa_cons (pe_bltn (v := .ty "tuple") (by rfl) T.n_tuple (by decide +kernel) rfl) pa_nil))) (pe_one (pe_callB (cr_all rfl) (by rfl) T.n_all (by decide +kernel) (pa_cons (pe_lc (own := [("card", 4)]) (g := (gName 4)) (tt := tYes) (te := (tCall (spCard T.Web.C) [] E0 (tCons (tVar 0) (tCons (tVar 1) (tCons (tVar 2) (tCons (tVar 4) tNil)))))) rfl sc_are_cards.nd (pi_tup (pv 3)) (blkOk_by (own := [("card", 4)]) (N := ["web", "lot", "sort", "thing", "card"]) (sc := defScope s_are_cards) (by decide +kernel)) (fun _ _ _ _ _ => (pg_name (i := 4) sc_are_cards.nd rfl (Or.inl rfl))) (fun _ _ _ _ _ => pts_nil) (fun _ _ _ _ _ => (by exact (pe_call (ok_is_card T) (hr.mono (by decide)) rfl T.is_card.g T.is_card.F.kp T.is_card.b .nil pass0 (pa_cons (pv 0) (pa_cons (pv 1) (pa_cons (pv 2) (pa_cons (pv 4) pa_nil)))))))) pa_nil))))))), ?_⟩
    refine ⟨_, rfl, _, rfl, _, rfl, h, p, n, rds, v, sv, d, ds, rfl, W.o, r, rs, kl, ks, fun a b H1 s1 => ?_⟩
    obtain ⟨L, so, rfl, rfl, hso, kk⟩ := kq a b
    obtain ⟨aL, rfl, eL, _⟩ := nD_inv r
    refine ⟨_, rfl, _, _, _, _, _, rfl, .ty "tuple", (rt.same s1).ty, kit_ty (kitT dt), _, rfl, ?_⟩
    cases rt with
    | @tup q xs ts e z ra =>
      refine iteT ⟨_, rfl, _, rfl, ⟨_, SqT.of (s1 _ _ e)⟩, fun A2 hA2 => all_tup (s1 _ _ e) z (ra.same s1) (cardOk rds tm L so) hA2 (fun x => rfl) (fun x d H' Q' hd s2 rp q => ?_) (fun H4 s4 sl => ?_)⟩
      · exact ⟨_, rfl, _, rfl, _, rfl, _, rfl, h, p, aL, n, rds, rm, tm, L, so, x, d, rfl, (W.same s1).same s2, s2 _ _ (s1 _ _ eL), hso, rp, fun H' s => q H' s⟩
      · refine ⟨_, _, rfl, sl, ?_⟩
        rw [map_all]
        exact kk H4 (s1.trans s4)
    | _ => exact iteF (kk H1 s1)
end
end Hc


set_option Elab.async false
set_option linter.all false
set_option pp.maxSteps 600
set_option maxRecDepth 100000
set_option maxHeartbeats 4000000
set_option autoImplicit false
namespace Hc
open PySem L2
/-- what a web's parts are -/
structure PartsOk (n : Int) (rds : List D) (rm tm : List Int) : Prop where
  n0 : 2 ≤ n
  n1 : n ≤ 12
  all : rds.all (isBE n) = true
  l1 : 1 ≤ rds.length
  l2 : rds.length ≤ 24
  lr : rm.length = rds.length
  lt : tm.length = rds.length
  br : ∀ x ∈ rm, 1 ≤ x ∧ x ≤ 3
  bt : ∀ x ∈ tm, 1 ≤ x ∧ x ≤ 3
theorem WebF.p {H : Hp} {h : Addr} {v : V} {n : Int} {rds : List D} {rm tm : List Int} (x : WebF H h v n rds rm tm) : PartsOk n rds rm tm := ⟨x.n0, x.n1, x.all, x.l1, x.l2, x.lr, x.lt, x.br, x.bt⟩
theorem PartsOk.f {H : Hp} {h : Addr} {v : V} {n : Int} {rds : List D} {rm tm : List Int} (x : PartsOk n rds rm tm) (r : Rp H h v (.tup [.int n, .tup rds, .tup (rm.map D.int), .tup (tm.map D.int)])) : WebF H h v n rds rm tm := ⟨r, x.n0, x.n1, x.all, x.l1, x.l2, x.lr, x.lt, x.br, x.bt⟩
theorem be_wide {n m : Int} (h : n ≤ m) {rds : List D} (e : rds.all (isBE n) = true) : rds.all (isBE m) = true := by
  rw [List.all_eq_true] at e ⊢
  intro d hd
  obtain ⟨a, b, rfl, h1, h2, h3, h4, h5⟩ := be_full (e d hd)
  exact be_of h1 (by omega) h3 (by omega) h5
def cutD (ds : List D) (lo hi : Option Int) : List D := (ds.drop (HT.sIx ds.length 0 lo)).take (HT.sIx ds.length ds.length hi - HT.sIx ds.length 0 lo)
theorem slA_ex {K : PySem.W.Frag} {H : Hp} {h c : Addr} {x : V} {lo hi : Option Int} {Q : VK} {ds : List D} (hA : HandAt H h c) (r : Rp H h x (.tup ds))
    (k : ∀ v H', Same H H' → HandAt H' h c → Rp H' h v (.tup (cutD ds lo hi)) → Q v H') : rSlA K x lo hi H Q := by
  obtain ⟨a, xs, rfl, e, z, ra⟩ := tup_inv r
  have l := ra.len
  refine ⟨a, xs, rfl, SqT.of e, fun hw => ?_, fun _ p hp => ?_⟩
  · rw [l] at hw
    have : cutD ds lo hi = ds := by
      unfold cutD
      rw [hw.1, hw.2, List.drop_zero, Nat.sub_zero, List.take_length]
    have k' := k (.ref a) H (Same.refl _) hA
    rw [this] at k'
    exact k' r
  · obtain ⟨s2, e2, n2, n3, hA2⟩ := new_facts (o := .tup (cutV xs lo hi)) hA hp rfl
    refine k _ _ s2 hA2 (.tup e2 (Nat.le_trans (cutV_length _ _ _) z) ?_)
    have : RpA H h (cutV xs lo hi) (cutD ds lo hi) := by
      unfold cutV cutD
      rw [l]
      exact RpA.take _ (RpA.drop _ ra)
    exact this.same s2
theorem cutD_last {ds : List D} : cutD ds none (some (-1)) = ds.take (ds.length - 1) := by
  have s1 : HT.sIx ds.length 0 none = 0 := rfl
  have s2 : HT.sIx ds.length ds.length (some (-1)) = ds.length - 1 := by
    show (if (-1 : Int) < 0 then ((-1 : Int) + (ds.length : Int)).toNat else min (-1 : Int).toNat ds.length) = _
    rw [if_pos (by decide)]; omega
  unfold cutD
  rw [s1, s2, List.drop_zero, Nat.sub_zero]
theorem cutD_to {ds : List D} {k : Nat} (h : k ≤ ds.length) : cutD ds none (some (k : Int)) = ds.take k := by
  have s1 : HT.sIx ds.length 0 none = 0 := rfl
  have s2 : HT.sIx ds.length ds.length (some (k : Int)) = k := by
    show (if (k : Int) < 0 then ((k : Int) + (ds.length : Int)).toNat else min (k : Int).toNat ds.length) = _
    rw [if_neg (by omega)]; omega
  unfold cutD
  rw [s1, s2, List.drop_zero, Nat.sub_zero]
theorem cutD_from {ds : List D} {k : Nat} (h : k ≤ ds.length) : cutD ds (some (k : Int)) none = ds.drop k := by
  have s1 : HT.sIx ds.length 0 (some (k : Int)) = k := by
    show (if (k : Int) < 0 then ((k : Int) + (ds.length : Int)).toNat else min (k : Int).toNat ds.length) = _
    rw [if_neg (by omega)]; omega
  have s2 : HT.sIx ds.length ds.length none = ds.length := rfl
  unfold cutD
  rw [s1, s2]
  exact List.take_of_length_le (by rw [List.length_drop]; exact Nat.le_refl _)
theorem at_ints {ns : List Int} {d : Int} (d0 : 0 ≤ d) (d1 : d < (ns.length : Nat)) : ∃ x : Int, atI (ns.map V.int) d = some (.int x) := by
  obtain ⟨j, rfl⟩ := Int.eq_ofNat_of_zero_le d0
  have hj : j < ns.length := by omega
  exact ⟨ns[j], atI_nat (by rw [List.getElem?_map, List.getElem?_eq_getElem hj]; rfl)⟩
/-- all but what stands at A -/
theorem NL.msk {H : Hp} {A : Addr} {zs : List V} (e : H A = some (.lst zs)) : NL H (Msk A H) := fun b o q n => Msk.mk (fun z => by subst z; rw [e] at q; cases q; exact n _ rfl) q
/-! ### days cut, turned about, moved -/
structure HQ (tm rm : List Int) (ls : List Lt) (rows : List (List Int)) : Prop where
  len : rows.length = ls.length
  one : ∀ (k : Nat) (l : Lt) (r : List Int), ls[k]? = some l → rows[k]? = some r → r.length = l.1.length ∧ EarlyOk tm l r
  full : NotFull rm ls rows
theorem HrOk.q {rm tm : List Int} {ls : List Lt} {rows : List (List Int)} (x : HrOk rm tm ls rows) : HQ tm rm ls rows := ⟨x.len, x.one, x.full⟩
theorem HQ.ok {rds : List D} {rm tm : List Int} {ls : List Lt} {rows : List (List Int)} (x : HQ tm rm ls rows) (o : LsOk rds ls) (l60 : ls.length ≤ 60) (hm : rm.length = rds.length) : DayOk rds rm tm ls rows := by
  have ln : LenOk ls rows := ⟨x.len, fun k l r e1 e2 => (x.one k l r e1 e2).1⟩
  refine ⟨o, l60, ln, ?_, full_ok (fun l hl j hj => by rw [hm]; exact (o.h l hl).2.2.1 j hj) x.full⟩
  exact early_ok ln fun k l r e1 e2 => (x.one k l r e1 e2).2
theorem zip_take {α β : Type} : ∀ (a : List α) (b : List β) (n : Nat), (a.take n).zip (b.take n) = (a.zip b).take n
  | [], _, n => by simp
  | _ :: _, [], n => by cases n <;> simp
  | _ :: a, _ :: b, 0 => by simp
  | x :: a, y :: b, n + 1 => by
    rw [List.take_succ_cons, List.take_succ_cons, List.zip_cons_cons, List.zip_cons_cons, List.take_succ_cons, zip_take a b n]
theorem zip_rev {α β : Type} (a : List α) (b : List β) (h : b.length = a.length) : a.reverse.zip b.reverse = (a.zip b).reverse := by
  refine List.ext_getElem? fun i => ?_
  have lz : (a.zip b).length = a.length := by rw [List.length_zip]; omega
  by_cases hi : i < a.length
  · rw [List.getElem?_zip_eq_some.mpr (⟨?_, ?_⟩ : a.reverse[i]? = some (a[a.length - 1 - i]'(by omega), b[a.length - 1 - i]'(by omega)).1 ∧ b.reverse[i]? = some (a[a.length - 1 - i]'(by omega), b[a.length - 1 - i]'(by omega)).2)]
    · rw [List.getElem?_reverse (by omega), lz, List.getElem?_eq_getElem (by omega), List.getElem_zip]
    · rw [List.getElem?_reverse hi, List.getElem?_eq_getElem (by omega)]
    · rw [List.getElem?_reverse (by omega), List.getElem?_eq_getElem (by omega)]
      congr 1
      congr 1
      omega
  · rw [List.getElem?_eq_none (by rw [List.length_zip, List.length_reverse]; omega), List.getElem?_eq_none (by rw [List.length_reverse]; omega)]
theorem LsOk.take {rds : List D} {ls : List Lt} (o : LsOk rds ls) (n : Nat) : LsOk rds (ls.take n) := ⟨fun l hl => o.h l (List.mem_of_mem_take hl)⟩
theorem LsOk.rev {rds : List D} {ls : List Lt} (o : LsOk rds ls) : LsOk rds ls.reverse := ⟨fun l hl => o.h l (List.mem_reverse.mp hl)⟩
theorem HQ.take {tm rm : List Int} {ls : List Lt} {rows : List (List Int)} (x : HQ tm rm ls rows) (n : Nat) : HQ tm rm (ls.take n) (rows.take n) := by
  refine ⟨by rw [List.length_take, List.length_take, x.len], fun k l r e1 e2 => ?_, fun road t hr => ?_⟩
  · have f : ∀ {α : Type} {xs : List α} {y : α}, (xs.take n)[k]? = some y → xs[k]? = some y := fun {α xs y} e => by
      rw [List.getElem?_take] at e
      by_cases q : k < n
      · rwa [if_pos q] at e
      · rw [if_neg q] at e; cases e
    exact x.one k l r (f e1) (f e2)
  · have := x.full road t hr
    have c : (es (ls.take n) (rows.take n)).count (road, t) ≤ (es ls rows).count (road, t) := by
      rw [es_flat, es_flat, zip_take]
      conv => rhs; rw [← List.take_append_drop n (ls.zip rows), List.flatMap_append, List.count_append]
      exact Nat.le_add_right _ _
    omega
theorem HQ.rev {tm rm : List Int} {ls : List Lt} {rows : List (List Int)} (x : HQ tm rm ls rows) : HQ tm rm ls.reverse rows.reverse := by
  refine ⟨by rw [List.length_reverse, List.length_reverse, x.len], fun k l r e1 e2 => ?_, fun road t hr => ?_⟩
  · have hk : k < ls.length := by
      have := (List.getElem?_eq_some_iff.mp e1).1
      rwa [List.length_reverse] at this
    rw [List.getElem?_reverse hk] at e1
    rw [List.getElem?_reverse (by rw [x.len]; exact hk), x.len] at e2
    exact x.one _ l r e1 e2
  · have := x.full road t hr
    have c : (es ls.reverse rows.reverse).count (road, t) = (es ls rows).count (road, t) := by
      rw [es_flat, es_flat, zip_rev _ _ x.len]
      exact ((List.reverse_perm _).flatMap_right _).count_eq _
    omega
theorem early_pos {tm : List Int} {l : Lt} {r : List Int} (e : EarlyOk tm l r) (ht : ∀ y ∈ tm, 0 ≤ y) (hc : 0 ≤ l.2) : ∀ j, j < r.length → 0 ≤ r.getD j 0 := by
  intro j
  induction j with
  | zero =>
    intro hj
    have := e 0 hj
    unfold nextAt at this
    rw [if_pos (by simp)] at this
    omega
  | succ j ih =>
    intro hj
    have h1 := ih (by omega)
    have h2 := e (j + 1) hj
    unfold nextAt at h2
    rw [if_neg (by rw [List.length_take]; omega)] at h2
    have l1 : (r.take (j + 1)).length - 1 = j := by rw [List.length_take]; omega
    rw [l1] at h2
    have g : (r.take (j + 1)).getD j 0 = r.getD j 0 := by
      rw [List.getD_eq_getElem?_getD, List.getD_eq_getElem?_getD, List.getElem?_take, if_pos (by omega)]
    rw [g] at h2
    have tz : 0 ≤ tm.getD (l.1.getD j 0) 0 := by
      rw [List.getD_eq_getElem?_getD]
      cases q : tm[l.1.getD j 0]? with
      | none => exact Int.le_refl 0
      | some y => exact ht y (List.mem_of_getElem? q)
    omega
/-! ### numbers -/
theorem kept_nat (m : Nat) (ns : List Nat) : kept m (ns.map fun j => D.int (j : Nat)) = (List.range m).filter fun k => !decide (k ∈ ns) := by
  unfold kept
  have e : (ns.map fun j => D.int (j : Nat)).map num = ns.map fun (j : Nat) => (j : Int) := by rw [List.map_map]; rfl
  rw [e]
  refine List.filter_congr fun k _ => ?_
  congr 1
  refine decide_eq_decide.mpr ⟨fun h => ?_, fun h => List.mem_map.mpr ⟨k, h, rfl⟩⟩
  obtain ⟨j, hj, e⟩ := List.mem_map.mp h
  have : j = k := by omega
  rw [← this]; exact hj
theorem kept_more {m : Nat} {ns ms : List Nat} (h : ∀ x ∈ ms, x ∈ ns) : (List.range m).filter (fun k => !decide (k ∈ ns ++ ms)) = (List.range m).filter fun k => !decide (k ∈ ns) := by
  refine List.filter_congr fun k _ => ?_
  congr 1
  refine decide_eq_decide.mpr ⟨fun z => ?_, fun z => List.mem_append_left _ z⟩
  rcases List.mem_append.mp z with z | z
  · exact z
  · exact h k z
theorem range_cut (m k : Nat) : (List.range (m + k)).filter (fun j => !decide (j ∈ List.range m)) = (List.range k).map (m + ·) := by
  rw [List.range_add, List.filter_append]
  have h1 : (List.range m).filter (fun j => !decide (j ∈ List.range m)) = [] := by
    rw [List.filter_eq_nil_iff]
    intro j hj
    rw [decide_eq_true hj]; decide
  have h2 : ((List.range k).map (m + ·)).filter (fun j => !decide (j ∈ List.range m)) = (List.range k).map (m + ·) := by
    rw [List.filter_eq_self]
    intro j hj
    obtain ⟨i, _, rfl⟩ := List.mem_map.mp hj
    rw [decide_eq_false (fun z => by have := List.mem_range.mp z; omega)]; rfl
  rw [h1, h2, List.nil_append]
theorem pick_drop {α : Type} (a b : List α) : pick (a ++ b) ((List.range b.length).map (a.length + ·)) = b := by
  unfold pick
  rw [List.filterMap_map]
  have : ∀ (c : List α) (k : Nat), (∀ i, i < c.length → (a ++ b)[a.length + (k + i)]? = c[i]?) → (List.range' k c.length).filterMap ((fun k => (a ++ b)[k]?) ∘ (a.length + ·)) = c := by
    intro c
    induction c with
    | nil => intro k _; rfl
    | cons x c ih =>
      intro k h
      rw [List.length_cons, List.range'_succ, List.filterMap_cons]
      have h0 := h 0 (by simp)
      rw [Nat.add_zero] at h0
      show (match (a ++ b)[a.length + k]? with | none => _ | some y => y :: _) = _
      rw [h0]
      show x :: _ = _
      rw [ih (k + 1) fun i hi => by
        have := h (i + 1) (by simp; omega)
        rw [show k + 1 + i = k + (i + 1) by omega, this]; rfl]
  rw [List.range_eq_range']
  refine this b 0 fun i hi => ?_
  rw [List.getElem?_append_right (by omega)]
  congr 1
  omega
theorem shL_back (b : Int) (ls : List Lt) : shL (0 - b) (shL b ls) = ls := by
  unfold shL
  rw [List.map_map]
  refine (List.map_congr_left fun l _ => ?_).trans (List.map_id ls)
  show (l.1, l.2 + b + (0 - b)) = l
  rw [show l.2 + b + (0 - b) = l.2 by omega]
theorem shR_back (b : Int) (rows : List (List Int)) : shR (0 - b) (shR b rows) = rows := by
  unfold shR
  rw [List.map_map]
  refine (List.map_congr_left fun r _ => ?_).trans (List.map_id rows)
  show (r.map fun x => x + b).map (fun x => x + (0 - b)) = r
  rw [List.map_map]
  refine (List.map_congr_left fun x _ => ?_).trans (List.map_id r)
  show x + b + (0 - b) = x
  omega
theorem LsOk.app {rds : List D} {ls ls' : List Lt} (a : LsOk rds ls) (b : LsOk rds ls') : LsOk rds (ls ++ ls') := ⟨fun l hl => by
  rcases List.mem_append.mp hl with h | h
  · exact a.h l h
  · exact b.h l h⟩
theorem LenOk.app {ls ls' : List Lt} {rows rows' : List (List Int)} (a : LenOk ls rows) (b : LenOk ls' rows') : LenOk (ls ++ ls') (rows ++ rows') := by
  refine ⟨by rw [List.length_append, List.length_append, a.1, b.1], fun k l r e1 e2 => ?_⟩
  by_cases h : k < ls.length
  · rw [List.getElem?_append_left h] at e1
    rw [List.getElem?_append_left (by rw [a.1]; exact h)] at e2
    exact a.2 k l r e1 e2
  · rw [List.getElem?_append_right (by omega)] at e1
    rw [List.getElem?_append_right (by rw [a.1]; omega), a.1] at e2
    exact b.2 _ l r e1 e2
theorem es_app {ls ls' : List Lt} {rows rows' : List (List Int)} (h : rows.length = ls.length) : es (ls ++ ls') (rows ++ rows') = es ls rows ++ es ls' rows' := by
  rw [es_flat, es_flat, es_flat, List.zip_append (by omega), List.flatMap_append]
theorem LsOk.sh {rds : List D} {ls : List Lt} {b : Int} (o : LsOk rds ls) (b0 : 0 ≤ b) (b1 : ∀ l ∈ ls, l.2 + b ≤ 1000000) : LsOk rds (shL b ls) := ⟨fun l hl => by
  obtain ⟨l0, h0, rfl⟩ := List.mem_map.mp hl
  obtain ⟨h1, h2, h3, h4, h5, h6⟩ := o.h l0 h0
  exact ⟨h1, h2, h3, h4, by show 1 ≤ l0.2 + b; omega, b1 l0 h0⟩⟩
theorem LenOk.sh {ls : List Lt} {rows : List (List Int)} (b : Int) (x : LenOk ls rows) : LenOk (shL b ls) (shR b rows) := by
  refine ⟨by unfold shL shR; rw [List.length_map, List.length_map, x.1], fun k l r e1 e2 => ?_⟩
  unfold shL at e1
  unfold shR at e2
  rw [List.getElem?_map] at e1 e2
  cases g1 : ls[k]? with
  | none => rw [g1] at e1; cases e1
  | some l0 =>
    cases g2 : rows[k]? with
    | none => rw [g2] at e2; cases e2
    | some r0 =>
      rw [g1] at e1
      rw [g2] at e2
      obtain rfl := (Option.some.inj e1).symm
      obtain rfl := (Option.some.inj e2).symm
      rw [List.length_map]
      exact x.2 k l0 r0 g1 g2
theorem es_sh (b : Int) : ∀ (ls : List Lt) (rows : List (List Int)), es (shL b ls) (shR b rows) = (es ls rows).map fun e => (e.1, e.2 + b)
  | [], _ => rfl
  | _ :: _, [] => rfl
  | l :: ls, r :: rows => by
    show es ((l.1, l.2 + b) :: shL b ls) ((r.map fun x => x + b) :: shR b rows) = _
    rw [es_cons, es_cons, List.map_append, es_sh b ls rows]
    congr 1
    show l.1.zip (r.map fun x => x + b) = (l.1.zip r).map fun e => (e.1, e.2 + b)
    rw [List.zip_map_right]; rfl
theorem count_sh (b : Int) (E : List (Nat × Int)) (x : Nat × Int) : (E.map fun e => (e.1, e.2 + b)).count x = E.count (x.1, x.2 - b) := by
  rw [List.count, List.countP_map, List.count]
  congr 1
  funext e
  show ((e.1, e.2 + b) == x) = (e == (x.1, x.2 - b))
  rw [Bool.eq_iff_iff]
  simp only [beq_iff_eq, Prod.ext_iff]
  constructor
  · rintro ⟨h1, h2⟩; exact ⟨h1, by omega⟩
  · rintro ⟨h1, h2⟩; exact ⟨h1, by omega⟩
/-- two days far apart do not meet -/
theorem far_full {rm : List Int} {ls ls' : List Lt} {rows rows' : List (List Int)} (ln : rows.length = ls.length) (f : NotFull rm ls rows) (f' : NotFull rm ls' rows') (mx : MaxAt rows 399) (mn : ∀ r ∈ rows', ∀ y ∈ r, 0 ≤ y) : NotFull rm (ls ++ shL 500 ls') (rows ++ shR 500 rows') := fun road t hr => by
  rw [es_app ln, List.count_append, es_sh, count_sh]
  have h1 := f road t hr
  have h2 := f' road (t - 500) hr
  by_cases g : t ≤ 399
  · have z : (es ls' rows').count (road, t - 500) = 0 := by
      rw [List.count_eq_zero]
      intro hm
      obtain ⟨r, h3, h4⟩ := mem_es hm
      have := mn r h3 _ h4
      have : 0 ≤ t - 500 := this
      omega
    show (((es ls rows).count (road, t) + (es ls' rows').count (road, t - 500) : Nat) : Int) ≤ _
    rw [z]; omega
  · have z := count_zero (ls := ls) mx (road := road) (t := t) (by omega)
    show (((es ls rows).count (road, t) + (es ls' rows').count (road, t - 500) : Nat) : Int) ≤ _
    rw [z]; omega
section
variable {P : Program} {w : World} {K : PySem.W.Frag} {mg : Str → Option Value} {base : Heap}
/-- Web(..) of right parts -/
theorem newW (T : Tx K mg) {H : Hp} {h : Addr} {v2 v3 v4 : V} {n : Int} {rds : List D} {rm tm : List Int} {Q : VK} {E : XK} (p : PartsOk n rds rm tm) (r2 : Rp H h v2 (.tup rds)) (r3 : Rp H h v3 (.tup (rm.map D.int))) (r4 : Rp H h v4 (.tup (tm.map D.int)))
    (k : ∀ p H', Same H H' → WebX T.Web.C H' h p n rds rm tm → Q (.ref p) H') :
    ∀ x dx, H x = none → H dx = none → dx ≠ x → spWeb T.Web.C T.x_BadWeb.C (.ref x :: ([.int n, v2, v3, v4] ++ [])) (upd (upd H dx (.own x)) x (.ins T.Web.C dx [])) (fun v H2 => v = .non ∧ Q (.ref x) H2) E := by
  intro x dx hx hdx nx
  have sx : Same H (upd (upd H dx (.own x)) x (.ins T.Web.C dx [])) := fun b o q => by
    rw [upd_ne (ne_of_none q hx), upd_ne (ne_of_none q hdx)]; exact q
  have cnt : ∀ ns : List Int, ns.length = rds.length → (∀ x ∈ ns, 1 ≤ x ∧ x ≤ 3) → areBtw (rds.length : Nat) 1 3 (.tup (ns.map Hc.D.int)) = true := fun ns h1 h2 => by
    rw [areBtw_tup, List.length_map, decide_eq_true (show ((ns.length : Nat) : Int) = (rds.length : Nat) by omega), Bool.true_and, List.all_eq_true]
    intro d hd
    obtain ⟨x, hx, rfl⟩ := List.mem_map.mp hd
    exact btw_of (h2 x hx).1 (h2 x hx).2
  have hdue : due (.int n) (.tup rds) (.tup (rm.map Hc.D.int)) (.tup (tm.map Hc.D.int)) = none := by
    have q1 : ¬ isBtw 2 12 (.int n) = false := by rw [btw_of p.n0 p.n1]; decide
    have q2 : ¬ areRoads (num (.int n)) (.tup rds) = false := by
      show ¬ areRoads n (.tup rds) = false
      rw [areRoads_tup, decide_eq_true p.l1, decide_eq_true p.l2, p.all]; decide
    have q3 : ¬ areBtw (dlen (.tup rds)) 1 3 (.tup (rm.map Hc.D.int)) = false := by
      show ¬ areBtw (rds.length : Nat) 1 3 (.tup (rm.map Hc.D.int)) = false
      rw [cnt rm p.lr p.br]; decide
    have q4 : ¬ areBtw (dlen (.tup rds)) 1 3 (.tup (tm.map Hc.D.int)) = false := by
      show ¬ areBtw (rds.length : Nat) 1 3 (.tup (tm.map Hc.D.int)) = false
      rw [cnt tm p.lt p.bt]; decide
    exact (if_neg q1).trans ((if_neg q2).trans ((if_neg q3).trans (if_neg q4)))
  refine ⟨h, x, dx, .int n, _, _, _, .int n, .tup rds, .tup (rm.map Hc.D.int), .tup (tm.map Hc.D.int), rfl, upd_same, .int n, r2.same sx, r3.same sx, r4.same sx, fun _ H7 b7 e7 => ⟨rfl, ?_⟩, fun part hd => by rw [hdue] at hd; cases hd⟩
  have s7 : Same H H7 := fun b o q => b7 _ _ (sx _ _ q) (ne_of_none q hx)
  exact k x H7 s7 ⟨⟨dx, _, _, _, e7, r2.same s7, r3.same s7, r4.same s7⟩, ⟨dx, _, _, _, _, e7, r2.same s7, r3.same s7, r4.same s7⟩, p.all, p.l1, p.l2, p.lr, p.lt, p.br, p.bt⟩
/-- Web(v[0], v[1], v[2], v[3]) -/
theorem mkW (T : Tx K mg) {σ : St} {j : Nat} {H : Hp} {h : Addr} {v : V} {n : Int} {rds : List D} {rm tm : List Int} {Q : VK} {E : XK} (hj : σ[j]? = some (some v)) (W : WebF H h v n rds rm tm)
    (k : ∀ p H', Same H H' → WebX T.Web.C H' h p n rds rm tm → Q (.ref p) H') :
    tMake T.Web.C (spWeb T.Web.C T.x_BadWeb.C) [] E (tCons (tOp (rIxT K) (tVar j) (tC (.int 0))) (tCons (tOp (rIxT K) (tVar j) (tC (.int 1))) (tCons (tOp (rIxT K) (tVar j) (tC (.int 2))) (tCons (tOp (rIxT K) (tVar j) (tC (.int 3))) tNil)))) σ H Q := by
  have p := W.p
  obtain ⟨pw, ys, rfl, ew, _, ra⟩ := tup_inv W.r
  cases ra with
  | cons r1 ra =>
  cases ra with
  | cons r2 ra =>
  cases ra with
  | cons r3 ra =>
  cases ra with
  | cons r4 ra =>
  cases ra
  cases r1
  exact ⟨_, hj, pw, _, 0, _, rfl, rfl, SqT.of ew, atI_nat (j := 0) rfl, _, hj, pw, _, 1, _, rfl, rfl, SqT.of ew, atI_nat (j := 1) rfl, _, hj, pw, _, 2, _, rfl, rfl, SqT.of ew, atI_nat (j := 2) rfl, _, hj, pw, _, 3, _, rfl, rfl, SqT.of ew, atI_nat (j := 3) rfl, newW T p r2 r3 r4 k⟩
/-- Day(..) of right parts -/
theorem newD (T : Tx K mg) {H : Hp} {h pw : Addr} {v2 v3 : V} {n : Int} {rds : List D} {rm tm : List Int} {ls : List Lt} {rows : List (List Int)} {Q : VK} {E : XK} (W : WebX T.Web.C H h pw n rds rm tm) (r2 : Rp H h v2 (ltsD ls)) (r3 : Rp H h v3 (rowsD rows)) (ok : DayOk rds rm tm ls rows)
    (k : ∀ p H', Same H H' → DayX T.Day.C T.Web.C H' h p n rds rm tm (ltsD ls) (rowsD rows) → Q (.ref p) H') :
    ∀ x dx, H x = none → H dx = none → dx ≠ x → spDay T.Day.C T.Web.C T.x_BadDay.C (.ref x :: ([.ref pw, v2, v3] ++ [])) (upd (upd H dx (.own x)) x (.ins T.Day.C dx [])) (fun v H2 => v = .non ∧ Q (.ref x) H2) E := by
  intro x dx hx hdx nx
  have sx : Same H (upd (upd H dx (.own x)) x (.ins T.Day.C dx [])) := fun b o q => by
    rw [upd_ne (ne_of_none q hx), upd_ne (ne_of_none q hdx)]; exact q
  refine ⟨h, x, dx, pw, v2, v3, ltsD ls, rowsD rows, n, rds, rm, tm, rfl, upd_same, W.w.same sx, r2.same sx, r3.same sx, fun ls' rows' _ _ _ H7 b7 e7 => ⟨rfl, ?_⟩, fun part hd => absurd hd ok.not⟩
  have s7 : Same H H7 := fun b o q => b7 _ _ (sx _ _ q) (ne_of_none q hx)
  have l1 : (dayF (.ref pw) v2 v3).length < 10 := putF_lt (n := 9) (putF_lt (n := 8) (putF_lt (n := 7) (by decide)))
  exact k x H7 s7 ⟨⟨dx, _, pw, v2, v3, e7, by omega, dF_w _ _ _, dF_l _ _ _, dF_h _ _ _, W.same s7, r2.same s7, r3.same s7⟩, isIn_lts ls, isIn_rows rows⟩
/-- Day(..), its arguments read -/
theorem mkD (T : Tx K mg) {σ : St} {t : TA} {H : Hp} {h pw : Addr} {v2 v3 : V} {n : Int} {rds : List D} {rm tm : List Int} {ls : List Lt} {rows : List (List Int)} {Q : VK} {E : XK} (ht : ∀ R : List V → Hp → Prop, R [.ref pw, v2, v3] H → t σ H R) (W : WebX T.Web.C H h pw n rds rm tm) (r2 : Rp H h v2 (ltsD ls)) (r3 : Rp H h v3 (rowsD rows)) (ok : DayOk rds rm tm ls rows)
    (k : ∀ p H', Same H H' → DayX T.Day.C T.Web.C H' h p n rds rm tm (ltsD ls) (rowsD rows) → Q (.ref p) H') : tMake T.Day.C (spDay T.Day.C T.Web.C T.x_BadDay.C) [] E t σ H Q := ht _ (newD T W r2 r3 ok k)
end
/-- t + u of things, in a heap without a hand -/
theorem catA_pl {K : PySem.W.Frag} {H : Hp} {h : Addr} {x y : V} {Q : VK} {ds es : List D} (r1 : Rp H h x (.tup ds)) (r2 : Rp H h y (.tup es)) (z : ds.length + es.length ≤ 50000)
    (k : ∀ v H', Same H H' → Rp H' h v (.tup (ds ++ es)) → Q v H') : rCatA K x y H Q := by
  obtain ⟨a, xs, rfl, e1, z1, ra⟩ := tup_inv r1
  obtain ⟨b, ys, rfl, e2, z2, rb⟩ := tup_inv r2
  have l1 := ra.len
  have l2 := rb.len
  refine ⟨a, b, xs, ys, rfl, rfl, SqT.of e1, SqT.of e2, line_le (by omega), fun ex => ?_, fun _ ey => ?_, fun _ _ p hp => ?_⟩
  · subst ex
    cases ra
    exact k _ _ (Same.refl _) r2
  · subst ey
    cases rb
    refine k _ _ (Same.refl _) ?_
    rw [List.append_nil]
    exact r1
  · have s3 := same_upd (o := .tup (xs ++ ys)) hp
    exact k _ _ s3 (.tup upd_same (by rw [List.length_append]; omega) ((ra.app rb).same s3))
end Hc


set_option Elab.async false
set_option linter.all false
set_option pp.maxSteps 600
set_option maxRecDepth 100000
set_option maxHeartbeats 4000000
set_option autoImplicit false
namespace Hc
open PySem L2
section
variable {P : Program} {w : World} {K : PySem.W.Frag} {mg : Str → Option Value} {base : Heap}
theorem ok_OtherWeb___init (T : Tx K mg) : FnOk P w K mg base (L2.CX P w) 1 T.x_OtherWeb.f T.x_OtherWeb.fd ["self"] spInitN := by
  refine T.x_OtherWeb.F.okX sc_OtherWeb___init (fun vs H Q E h => ?_) (fun cdv A outer s H vs Q E hr h => ?_)
  · obtain ⟨a, rfl, _⟩ := h
    rfl
  · obtain ⟨a, rfl, k⟩ := h
    exact ⟨_, pss_one ps_pass, k⟩
def spLaid (C CW CO : Addr) : Sp := fun vs H Q E => ∃ (h p q : Addr) (n n' : Int) (rds rds' : List D) (rm tm rm' tm' : List Int) (ls ls' : List Lt) (rows rows' : List (List Int)), vs = [.ref p, .ref q] ∧ DayX C CW H h p n rds rm tm (ltsD ls) (rowsD rows) ∧ DayX C CW H h q n' rds' rm' tm' (ltsD ls') (rowsD rows') ∧
  (¬ (n = n' ∧ rds = rds' ∧ rm = rm' ∧ tm = tm') → ∀ H', Same H H' → E (.ref CO) none H') ∧
  ((n = n' ∧ rds = rds' ∧ rm = rm' ∧ tm = tm') → LsOk rds (ls ++ ls') ∧ (ls ++ ls').length ≤ 60 ∧ LenOk (ls ++ ls') (rows ++ rows') ∧ (fullB rm (ls ++ ls') (rows ++ rows') = true → ∀ H', Same H H' → Q .non H') ∧
    (fullB rm (ls ++ ls') (rows ++ rows') = false → ∀ p' H', Same H H' → DayX C CW H' h p' n rds rm tm (ltsD (ls ++ ls')) (rowsD (rows ++ rows')) → Q (.ref p') H'))
theorem ok_laid_over (T : Tx K mg) : FnOk P w K mg base (L2.CX P w) 11 T.laid_over.f T.laid_over.fd ["day", "other"] (spLaid T.Day.C T.Web.C T.x_OtherWeb.C) := by
  refine T.laid_over.F.okX sc_laid_over (fun vs H Q E h => ?_) (fun cdv A outer s H vs Q E hr h => ?_)
  · obtain ⟨_, _, _, _, _, _, _, _, _, _, _, _, _, _, _, rfl, _⟩ := h
    rfl
  · obtain ⟨h, p, q, n, n', rds, rds', rm, tm, rm', tm', ls, ls', rows, rows', rfl, O, O', ke, kg⟩ := h
    obtain ⟨dx, fs, pw, v2, v3, ep, _, fw, fl, fh, W, r2, r3⟩ := O.ex
    obtain ⟨dx', fs', pw', v2', v3', ep', _, fw', fl', fh', W', r2', r3'⟩ := O'.ex
    have no : ∀ f ∈ (["web", "letters", "hours"] : List Str), NoAttr K T.Day.C f := T.Day.no
    refine ⟨_, (pss_cons (ps_if (pt_cmpR (op_neO (webEqR T) T.e_Web.i T.e_Web.t T.e_Web.ne T.e_Web.sb (hr.mono (by decide)) pass0) (pe_fld (pv 0) rfl) (pe_fld (pv 1) rfl) (nomark _))
      (pss_one (ps_raise rfl (takes_of rfl rfl rfl rfl) (pmk_oexN T.x_OtherWeb.T T.x_OtherWeb.iC T.x_OtherWeb.tI (ok_OtherWeb___init T) (hr.mono (by decide)) T.x_OtherWeb.b passL rfl T.x_OtherWeb.g)))
      pss_nil)
      (pss_cons (ps_set (i := 2) sc_laid_over.nd rfl (Or.inl rfl) (pe_op op_catA (pe_fld (pv 0) rfl) (pe_fld (pv 1) rfl)))
      (pss_cons (ps_set (i := 3) sc_laid_over.nd rfl (Or.inl rfl) (pe_op op_catA (pe_fld (pv 0) rfl) (pe_fld (pv 1) rfl)))
      (pss_cons (ps_if (pt_val (pe_call (ok_some_full T) (hr.mono (by decide)) rfl T.some_full.g T.some_full.F.kp T.some_full.b .nil pass0 (pa_cons (pe_fld (pv 0) rfl) (pa_cons (pv 2) (pa_cons (pv 3) pa_nil)))))
      (pss_one (ps_ret pe_non))
      pss_nil)
      (pss_one (ps_ret (pe_call (ok_day_of_any_size T) (hr.mono (by decide)) rfl T.day_of_any_size.g T.day_of_any_size.F.kp T.day_of_any_size.b .nil passL (pa_cons (pe_fld (pv 0) rfl) (pa_cons (pv 2) (pa_cons (pv 3) pa_nil)))))))))), ?_⟩
    refine ⟨_, rfl, p, T.Day.C, dx, _, _, rfl, ep, T.Day.cl, no _ (by simp), fw, _, rfl, q, T.Day.C, dx', _, _, rfl, ep', T.Day.cl, no _ (by simp), fw', ?_⟩
    refine neWW T W W' fun c hc => ⟨_, rfl, ?_⟩
    cases c with
    | false => exact iteT (ke (fun z => by have := hc.mpr z; cases this) H (Same.refl _))
    | true =>
    obtain ⟨o, l60, ln, kf, kt⟩ := kg (hc.mp rfl)
    have l60' := l60
    rw [List.length_append] at l60'
    have ll := ln.1
    refine iteF ⟨_, rfl, p, T.Day.C, dx, _, _, rfl, ep, T.Day.cl, no _ (by simp), fl, _, rfl, q, T.Day.C, dx', _, _, rfl, ep', T.Day.cl, no _ (by simp), fl', ?_⟩
    refine catA_pl r2 r2' (by rw [List.length_map, List.length_map]; omega) fun vl H1 s1 rl => ?_
    refine ⟨_, rfl, p, T.Day.C, dx, _, _, rfl, s1 _ _ ep, T.Day.cl, no _ (by simp), fh, _, rfl, q, T.Day.C, dx', _, _, rfl, s1 _ _ ep', T.Day.cl, no _ (by simp), fh', ?_⟩
    refine catA_pl (r3.same s1) (r3'.same s1) (by rw [List.length_map, List.length_map]; rw [List.length_append, List.length_append] at ll; omega) fun vh H2 s2 rh => ?_
    have rl : Rp H2 h vl (ltsD (ls ++ ls')) := by
      have e : ltsD (ls ++ ls') = .tup (ls.map ltD ++ ls'.map ltD) := by
        show D.tup (List.map _ _) = _
        rw [List.map_append]
      rw [e]; exact rl.same s2
    have rh : Rp H2 h vh (rowsD (rows ++ rows')) := by
      have e : rowsD (rows ++ rows') = .tup (rows.map rowD ++ rows'.map rowD) := by
        show D.tup (List.map _ _) = _
        rw [List.map_append]
      rw [e]; exact rh
    have s02 := s1.trans s2
    obtain ⟨b, xh, rfl, _, _, _⟩ := rows_at rh
    refine ⟨_, rfl, p, T.Day.C, dx, _, _, rfl, s02 _ _ ep, T.Day.cl, no _ (by simp), fw, _, rfl, _, rfl, h, pw, b, vl, n, rds, rm, tm, _, _, rfl, W.w.same s02, rl, rh, o, l60, ln.1, ln.2, fun H3 s3 => ⟨_, rfl, ?_⟩⟩
    have s03 := s02.trans s3
    cases g : fullB rm (ls ++ ls') (rows ++ rows') with
    | true => exact iteT (kf g H3 s03)
    | false =>
      exact iteF ⟨_, rfl, p, T.Day.C, dx, _, _, rfl, s03 _ _ ep, T.Day.cl, no _ (by simp), fw, _, rfl, _, rfl, h, pw, vl, .ref b, n, rds, rm, tm, _, _, rfl, W.same s03, rl.same s3, rh.same s3, fun p' H4 s4 X4 => kt g p' H4 (s03.trans s4) X4⟩
end
end Hc


set_option Elab.async false
set_option linter.all false
set_option pp.maxSteps 600
set_option maxRecDepth 100000
set_option maxHeartbeats 4000000
set_option autoImplicit false
namespace Hc
open PySem L2
theorem told_no {L w : List Nat} {ts : List D} {k : Nat} {j : Nat} {d : D} (h1 : w[k]? = some j) (h2 : ts[k]? = some d) (h : itemOk L j d = false) : toldOk L w (.tup ts) = false := by
  rw [toldOk_tup]
  have : ((w.zip ts).all fun p => itemOk L p.1 p.2) = false := by
    rw [List.all_eq_false]
    exact ⟨(j, d), List.mem_of_getElem? (i := k) (by rw [List.getElem?_zip_eq_some]; exact ⟨h1, h2⟩), by rw [h]; decide⟩
  rw [this, Bool.and_false]
theorem told_all {L w : List Nat} {ts : List D} (ln : ts.length = w.length) (h : ∀ (k j : Nat) (d : D), w[k]? = some j → ts[k]? = some d → itemOk L j d = true) : toldOk L w (.tup ts) = true := by
  rw [toldOk_tup, decide_eq_true ln, Bool.true_and, List.all_eq_true]
  rintro ⟨j, d⟩ hp
  obtain ⟨k, hk, e⟩ := List.mem_iff_getElem.mp hp
  have e2 : (w.zip ts)[k]? = some (j, d) := by rw [List.getElem?_eq_getElem hk, e]
  rw [List.getElem?_zip_eq_some] at e2
  exact h k j d e2.1 e2.2
theorem itD_len {L w : List Nat} {is : List Int} (h : is.length = w.length) : (itD L w is).length = w.length := by
  unfold itD
  rw [List.length_map, List.length_zip]; omega
theorem itD_at {L w : List Nat} {is : List Int} (h : is.length = w.length) {i : Nat} (hi : i < w.length) : (itD L w is).getD i .non = if w[i] ∈ L then D.int (is.getD i 0) else .non := by
  have e : (w.zip is)[i]? = some (w[i], is[i]'(by omega)) := by
    rw [List.getElem?_zip_eq_some]; exact ⟨List.getElem?_eq_getElem hi, List.getElem?_eq_getElem (by omega)⟩
  unfold itD
  rw [List.getD_eq_getElem?_getD, List.getElem?_map, e, List.getD_eq_getElem?_getD, List.getElem?_eq_getElem (show i < is.length by omega)]
  rfl
theorem told_own {L w : List Nat} {is : List Int} (h : is.length = w.length) : toldOk L w (.tup (itD L w is)) = true := by
  refine told_all (itD_len h) fun k j d h1 h2 => ?_
  have hk : k < w.length := (List.getElem?_eq_some_iff.mp h1).1
  have e := itD_at (L := L) h hk
  rw [List.getD_eq_getElem?_getD, h2] at e
  rw [List.getElem?_eq_getElem hk] at h1
  obtain rfl := Option.some.inj h1
  have e : d = if w[k] ∈ L then D.int (is.getD k 0) else .non := e
  rw [e]
  unfold itemOk
  by_cases g : w[k] ∈ L
  · rw [if_pos g, if_pos g]; rfl
  · rw [if_neg g, if_neg g]; rfl
theorem steps_at {tm : List Int} {w : List Nat} {j : Nat} (h : j < w.length) : (stepsOf tm w).getD j 0 = tm.getD (w.getD j 0) 0 := by
  unfold stepsOf
  rw [List.getD_eq_getElem?_getD, List.getElem?_map, List.getElem?_eq_getElem h, List.getD_eq_getElem?_getD (l := w), List.getElem?_eq_getElem h]
  rfl
theorem next_low {tm : List Int} {l : Lt} {r : List Int} (hr : r.length = l.1.length) (e : EarlyOk tm l r) {i : Nat} (hi : i < l.1.length) : (i = 0 → l.2 ≤ r.getD 0 0) ∧ (∀ j, i = j + 1 → r.getD j 0 + (stepsOf tm l.1).getD j 0 ≤ r.getD i 0) := by
  have := e i (by omega)
  unfold nextAt at this
  have lt : (r.take i).length = i := by rw [List.length_take]; omega
  rw [lt] at this
  constructor
  · intro z
    subst z
    rwa [if_pos rfl] at this
  · intro j z
    subst z
    rw [if_neg (by omega)] at this
    rw [steps_at (by omega)]
    have e1 : (r.take (j + 1)).getD (j + 1 - 1) 0 = r.getD j 0 := by
      rw [List.getD_eq_getElem?_getD, List.getElem?_take, if_pos (by omega), Nat.add_sub_cancel, List.getD_eq_getElem?_getD]
    rw [e1] at this
    rwa [Nat.add_sub_cancel] at this
theorem first_own {tm : List Int} {l : Lt} {r : List Int} {L : List Nat} (hr : r.length = l.1.length) (e : EarlyOk tm l r) : ∀ i, i ≤ l.1.length → ∃ f, firstAt (stepsOf tm l.1) l.2 (itD L l.1 r) i = some f ∧ (i = 0 → f = l.2) ∧ (∀ j, i = j + 1 → f ≤ r.getD j 0)
  | 0, _ => ⟨l.2, rfl, fun _ => rfl, fun j z => by omega⟩
  | i + 1, hi => by
    obtain ⟨f, hf, h0, hj⟩ := first_own (L := L) hr e i (by omega)
    have nl := next_low hr e (i := i) (by omega)
    have lo : f + gapAt (stepsOf tm l.1) i ≤ r.getD i 0 := by
      cases i with
      | zero =>
        have := h0 rfl
        have := nl.1 rfl
        show f + 0 ≤ _
        omega
      | succ j =>
        have := hj j rfl
        have := nl.2 j rfl
        show f + (stepsOf tm l.1).getD j 0 ≤ _
        omega
    have hs : firstAt (stepsOf tm l.1) l.2 (itD L l.1 r) (i + 1) = stepIt ((itD L l.1 r).getD i .non) (f + gapAt (stepsOf tm l.1) i) := by
      show (firstAt (stepsOf tm l.1) l.2 (itD L l.1 r) i).bind _ = _
      rw [hf]; rfl
    rw [hs, itD_at hr (by omega)]
    by_cases g : l.1[i] ∈ L
    · rw [if_pos g, stepIt_int, if_neg (by omega)]
      exact ⟨_, rfl, fun z => by omega, fun j z => by obtain rfl : j = i := by omega
                                                      exact Int.le_refl _⟩
    · rw [if_neg g, stepIt_non]
      exact ⟨_, rfl, fun z => by omega, fun j z => by obtain rfl : j = i := by omega
                                                      exact lo⟩
theorem alone_own {tm : List Int} {l : Lt} {r : List Int} {L : List Nat} (h1 : 1 ≤ l.1.length) (hr : r.length = l.1.length) (e : EarlyOk tm l r) : aloneOk (stepsOf tm l.1) l.2 (itD L l.1 r) (lastOf r) = true := by
  obtain ⟨f, hf, _, hj⟩ := first_own (L := L) hr e l.1.length (Nat.le_refl _)
  have hj := hj (l.1.length - 1) (by omega)
  unfold aloneOk
  rw [itD_len hr, hf, itD_at hr (by omega)]
  have el : lastOf r = r.getD (l.1.length - 1) 0 := by unfold lastOf; rw [hr]
  show lastOk _ f (lastOf r) = true
  by_cases g : l.1[l.1.length - 1] ∈ L
  · rw [if_pos g, el]
    exact decide_eq_true rfl
  · rw [if_neg g, el]
    exact decide_eq_true hj
theorem sum_own {tm : List Int} {l : Lt} {r : List Int} (hr : r.length = l.1.length) (e : EarlyOk tm l r) : ∀ i, i < l.1.length → l.2 + ((stepsOf tm l.1).take i).sum ≤ r.getD i 0
  | 0, hi => by
    rw [List.take_zero]
    have := (next_low hr e hi).1 rfl
    show l.2 + 0 ≤ _
    omega
  | i + 1, hi => by
    have ih := sum_own hr e i (by omega)
    have := (next_low hr e hi).2 i rfl
    have ls : (stepsOf tm l.1).length = l.1.length := List.length_map ..
    rw [take_more (show (stepsOf tm l.1)[i]? = some ((stepsOf tm l.1).getD i 0) by rw [List.getD_eq_getElem?_getD, List.getElem?_eq_getElem (show i < (stepsOf tm l.1).length by omega)]; rfl), List.sum_append, List.sum_cons, List.sum_nil]
    omega
theorem card_own {rds : List D} {tm : List Int} {so : Str} {L : List Nat} {l : Lt} {r is : List Int} (hso : (so = "hours" ∧ is = r) ∨ (so = "turns" ∧ ∀ i ∈ is, 0 ≤ i)) (hl : 1 ≤ l.1.length ∧ l.1.length ≤ 8 ∧ (∀ j ∈ l.1, j < rds.length) ∧ wayOk rds l.1 ∧ 1 ≤ l.2 ∧ l.2 ≤ 1000000) (hr : r.length = l.1.length) (hi : is.length = l.1.length) (e : EarlyOk tm l r) : cardOk rds tm L so (cardD L l r is) = true := by
  have w := way_ok hl.1 hl.2.1 hl.2.2.1 hl.2.2.2.1
  show cardOk4 rds tm L so (nD l.1) (.int l.2) (.int (lastOf r)) (.tup (itD L l.1 is)) = true
  unfold cardOk4
  rw [w, show natsD (nD l.1) = l.1 from natsD_nD l.1, told_own hi, show isFrom 1 (.int l.2) = true from decide_eq_true hl.2.2.2.2.1]
  show restOk so (stepsOf tm l.1) l.2 (itD L l.1 is) (lastOf r) = true
  unfold restOk
  rcases hso with ⟨rfl, rfl⟩ | ⟨rfl, nn⟩
  · rw [if_pos rfl]
    exact alone_own hl.1 hr e
  · rw [if_neg (by decide +kernel)]
    unfold turnsOk
    have ls : (stepsOf tm l.1).length = l.1.length := List.length_map ..
    have a : (itD L l.1 is).all turnOk = true := by
      rw [List.all_eq_true]
      intro d hd
      unfold itD at hd
      obtain ⟨p, hp, rfl⟩ := List.mem_map.mp hd
      by_cases g : p.1 ∈ L
      · rw [if_pos g]
        exact decide_eq_true (nn _ (List.of_mem_zip hp).2)
      · rw [if_neg g]; rfl
    rw [a, Bool.true_and, ls]
    have := sum_own hr e (l.1.length - 1) (by omega)
    refine decide_eq_true ?_
    unfold lastOf
    rw [hr]
    exact this
theorem getD_of {α : Type} {l : List α} {k : Nat} {x d : α} (e : l[k]? = some x) : l.getD k d = x := by
  rw [List.getD_eq_getElem?_getD, e]; rfl
structure HrOne (tm : List Int) (ls : List Lt) (rows : List (List Int)) : Prop where
  len : rows.length = ls.length
  one : ∀ (k : Nat) (l : Lt) (r : List Int), ls[k]? = some l → rows[k]? = some r → r.length = l.1.length ∧ EarlyOk tm l r
theorem cards_own {rds : List D} {tm : List Int} {so : Str} {L : List Nat} {ls : List Lt} {rows its : List (List Int)} (si : SortIts so ls rows its) (lo : LsOk rds ls) (ok : HrOne tm ls rows) : areCards rds tm L so (.tup (cdsD L ls rows its)) = true := by
  show (cdsD L ls rows its).all (cardOk rds tm L so) = true
  rw [List.all_eq_true]
  intro d hd
  unfold cdsD at hd
  obtain ⟨k, hk, rfl⟩ := List.mem_map.mp hd
  have hk := List.mem_range.mp hk
  have e1 : ls[k]? = some ls[k] := List.getElem?_eq_getElem hk
  have e2 : rows[k]? = some (rows[k]'(by have := ok.len; omega)) := List.getElem?_eq_getElem _
  obtain ⟨o1, o2⟩ := ok.one k _ _ e1 e2
  rw [getD_of e1, getD_of e2]
  have hl := lo.h _ (List.getElem_mem hk)
  rcases si with ⟨rfl, rfl⟩ | ⟨rfl, rfl⟩
  · rw [getD_of e2]
    exact card_own (.inl ⟨rfl, rfl⟩) hl o1 o1 o2
  · have e3 : (itsC ls rows)[k]? = _ := itsOf_at e1 e2
    rw [getD_of e3]
    refine card_own (.inr ⟨rfl, fun i hi => ?_⟩) hl o1 (by rw [List.length_map, List.length_range]) o2
    obtain ⟨p, _, rfl⟩ := List.mem_map.mp hi
    omega
section
variable {P : Program} {w : World} {K : PySem.W.Frag} {mg : Str → Option Value} {base : Heap}
def spCards (C CW CL CS : Addr) : Sp := fun vs H Q E => ∃ (h p : Addr) (v s : V) (d ds : D) (n : Int) (rds : List D) (rm tm : List Int) (ls : List Lt) (rows : List (List Int)), vs = [.ref p, v, s] ∧ DayO C CW H h p n rds rm tm ls rows ∧ DayOk rds rm tm ls rows ∧ Rp H h v d ∧ Rp H h s ds ∧
  (isLot rds d = false → ∀ H', Same H H' → E (.ref CL) none H') ∧ (isLot rds d = true → isSortD ds = false → ∀ H', Same H H' → E (.ref CS) none H') ∧
  (isLot rds d = true → isSortD ds = true → ∃ (L : List Nat) (so : Str) (its : List (List Int)), d = nD L ∧ s = .str so ∧ SortIts so ls rows its ∧ ∀ v' H', Same H H' → CdAt H' h v' L ls rows its → Q v' H')
theorem ok_cards (T : Tx K mg) : FnOk P w K mg base (L2.CX P w) 6 T.cards.f T.cards.fd ["day", "lot", "sort"] (spCards T.Day.C T.Web.C T.x_NoLot.C T.x_NoSort.C) := by
  refine T.cards.F.okX sc_cards (fun vs H Q E h => ?_) (fun cdv A outer s H vs Q E hr h => ?_)
  · obtain ⟨_, _, _, _, _, _, _, _, _, _, _, _, rfl, _⟩ := h
    rfl
  · obtain ⟨h, p, v, sv, d, ds, n, rds, rm, tm, ls, rows, rfl, O, ok, r, rs, k1, k2, k3⟩ := h
    obtain ⟨dx, fs, pw, v2, v3, ep, l100, fw, fl, fh, W, r2, r3⟩ := O.ex
    refine ⟨_, (pss_cons (ps_expr (pe_callS (ok_check_lot_and_sort T) (hr.mono (by decide)) rfl T.check_lot_and_sort.g T.check_lot_and_sort.F.kp T.check_lot_and_sort.b (fun σ => passAt (takes_of rfl rfl rfl rfl) σ) (pa_cons (pe_fld (pv 0) rfl) (pa_cons (pv 1) (pa_cons (pv 2) pa_nil)))))
      (pss_one (ps_ret (pe_call (ok_cards_of T) (hr.mono (by decide)) rfl T.cards_of.g T.cards_of.F.kp T.cards_of.b .nil pass0 (pa_cons (pv 0) (pa_cons (pv 1) (pa_cons (pv 2) pa_nil))))))), ?_⟩
    refine ⟨_, rfl, p, T.Day.C, dx, _, _, rfl, ep, T.Day.cl, T.Day.no _ (by simp), fw, _, rfl, _, rfl, h, pw, n, rds, v, sv, d, ds, rfl, W.o, r, rs, k1, k2, fun a b H1 s1 => ?_⟩
    obtain ⟨L, so, its, rfl, rfl, si, k4⟩ := k3 a b
    obtain ⟨aL, rfl, eL, _⟩ := nD_inv r
    exact ⟨_, rfl, _, rfl, _, rfl, h, p, aL, n, rds, rm, tm, ls, rows, its, L, so, rfl, si, O.nl (NL.of s1), ok, s1 _ _ eL, fun v' H' s' c => k4 v' H' (s1.trans s') c⟩
end
end Hc


set_option Elab.async false
set_option linter.all false
set_option pp.maxSteps 600
set_option maxRecDepth 100000
set_option maxHeartbeats 1000000
set_option autoImplicit false
namespace Hc
open PySem L2
/-! ### the turns of a road -/
def roadT (ls : List Lt) (rows : List (List Int)) (j : Nat) : List (List Int) := ofRoad ((j : Nat) : Int) (srtC (pAll ls rows ls.length))
def fndT (T : List (List Int)) (A : List (List Int)) : List (List Int) := A.map fun x => [((T.idxOf x : Nat) : Int), x.getD 0 0, x.getD 1 0]
def psF (T : List (List Int)) : List (List Int) := (List.range T.length).map fun i => [((i : Nat) : Int), (T.getD i []).getD 0 0, (T.getD i []).getD 1 0]
def two (x : List Int) : List Int := [x.getD 0 0, x.getD 1 0]
structure RoadOk (T : List (List Int)) : Prop where
  nd : T.Nodup
  s : T.Pairwise fun x y => Pl.lexI y x = false
  f : ∀ x ∈ T, ∃ a b c, x = [a, b, c]
section
variable {ls : List Lt} {rows : List (List Int)}
theorem roadT_perm (j : Nat) : (roadT ls rows j).Perm (tAll ((j : Nat) : Int) ls rows ls.length) := (SrtOf_road (srtC_ok _).1 (srtC_ok _).2 _).1
theorem mem_tAll {rd : Int} {m : Nat} {x : List Int} (h : x ∈ tAll rd ls rows m) : ∃ k p, k < m ∧ p < (ls.getD k ([], 0)).1.length ∧ (((ls.getD k ([], 0)).1.getD p 0 : Nat) : Int) = rd ∧ x = [(rows.getD k []).getD p 0, ((k : Nat) : Int), ((p : Nat) : Int)] := by
  unfold tAll at h
  obtain ⟨k, hk, h⟩ := List.mem_flatMap.mp h
  unfold tLt at h
  obtain ⟨p, hp, h⟩ := List.mem_flatMap.mp h
  unfold tAt at h
  by_cases g : (((ls.getD k ([], 0)).1.getD p 0 : Nat) : Int) = rd
  · rw [if_pos g, List.mem_singleton] at h
    exact ⟨k, p, List.mem_range.mp hk, List.mem_range.mp hp, g, h⟩
  · rw [if_neg g] at h; cases h
theorem roadT_ok (j : Nat) : RoadOk (roadT ls rows j) := by
  refine ⟨?_, (SrtOf_road (srtC_ok _).1 (srtC_ok _).2 _).2, fun x hx => ?_⟩
  · unfold roadT ofRoad
    have hS := (srtC_ok (pAll ls rows ls.length)).1
    have nd : (srtC (pAll ls rows ls.length)).Nodup := hS.nodup_iff.mpr (pAll_nodup _ _ _)
    unfold List.Nodup
    rw [List.pairwise_map]
    refine List.Pairwise.imp_of_mem (fun {a b} ha hb h e => ?_) (nd.filter _)
    obtain ⟨ha1, ha2⟩ := List.mem_filter.mp ha
    obtain ⟨hb1, hb2⟩ := List.mem_filter.mp hb
    exact h (road_inj hS hb1 a ha1 ((of_decide_eq_true ha2).trans (of_decide_eq_true hb2).symm) e)
  · obtain ⟨k, p, _, _, _, rfl⟩ := mem_tAll ((roadT_perm j).mem_iff.mp hx)
    exact ⟨_, _, _, rfl⟩
theorem psF_eq {T : List (List Int)} (nd : T.Nodup) : psF T = fndT T T := by
  unfold psF fndT
  refine List.ext_getElem? fun i => ?_
  rw [List.getElem?_map, List.getElem?_map]
  by_cases h : i < T.length
  · rw [List.getElem?_range h, List.getElem?_eq_getElem h]
    show some [((i : Nat) : Int), (T.getD i []).getD 0 0, (T.getD i []).getD 1 0] = some [((T.idxOf T[i] : Nat) : Int), T[i].getD 0 0, T[i].getD 1 0]
    rw [idx_at nd (List.getElem?_eq_getElem h), List.getD_eq_getElem?_getD (l := T), List.getElem?_eq_getElem h]; rfl
  · rw [List.getElem?_eq_none (by rw [List.length_range]; omega), List.getElem?_eq_none (by omega)]; rfl
theorem ps_srt (j : Nat) : SrtOf (fndT (roadT ls rows j) (tAll ((j : Nat) : Int) ls rows ls.length)) (psF (roadT ls rows j)) := by
  refine ⟨?_, ?_⟩
  · rw [psF_eq (roadT_ok j).nd]
    exact (roadT_perm j).map _
  · unfold psF
    rw [List.pairwise_map]
    refine List.pairwise_lt_range.imp fun {a b} h => ?_
    rw [Pl.lexI_cons, if_neg (by omega), decide_eq_false_iff_not]
    omega
theorem two_srt {T : List (List Int)} (R : RoadOk T) : SrtOf (T.map two) (T.map two) := by
  refine ⟨List.Perm.refl _, ?_⟩
  rw [List.pairwise_map]
  refine List.Pairwise.imp_of_mem (fun {x y} hx hy h => ?_) R.s
  obtain ⟨a, b, c, rfl⟩ := R.f x hx
  obtain ⟨a', b', c', rfl⟩ := R.f y hy
  show Pl.lexI [a', b'] [a, b] = false
  rw [Pl.lexI_cons, Pl.lexI_cons] at h ⊢
  by_cases e : a' = a
  · rw [if_pos e] at h ⊢
    by_cases e2 : b' = b
    · rw [if_pos e2]; rfl
    · rw [if_neg e2] at h ⊢; exact h
  · rw [if_neg e] at h ⊢; exact h
theorem hd_mono {T : List (List Int)} (R : RoadOk T) {i q : Nat} (hq : q < T.length) (h : i ≤ q) : hdI (T.getD i []) ≤ hdI (T.getD q []) := by
  by_cases e : i = q
  · subst e; exact Int.le_refl _
  have hi : i < T.length := by omega
  have := List.pairwise_iff_getElem.mp R.s i q hi hq (by omega)
  have e1 : T.getD i [] = T[i] := by rw [List.getD_eq_getElem?_getD, List.getElem?_eq_getElem hi]; rfl
  have e2 : T.getD q [] = T[q] := by rw [List.getD_eq_getElem?_getD, List.getElem?_eq_getElem hq]; rfl
  rw [e1, e2]
  obtain ⟨a, b, c, ex⟩ := R.f _ (List.getElem_mem hi)
  obtain ⟨a', b', c', ey⟩ := R.f _ (List.getElem_mem hq)
  rw [ex, ey] at this ⊢
  rw [Pl.lexI_cons] at this
  show a ≤ a'
  by_cases g : a' = a
  · omega
  · rw [if_neg g, decide_eq_false_iff_not] at this
    omega
theorem no_clash {T : List (List Int)} (R : RoadOk T) {rm : Nat} (cap : ∀ t, (T.filter fun x => decide (hdI x = t)).length ≤ rm) {i : Nat} (h1 : rm ≤ i) (h2 : i < T.length) : hdI (T.getD i []) ≠ hdI (T.getD (i - rm) []) := by
  intro e
  have := cap (hdI (T.getD i []))
  have sub : ((T.drop (i - rm)).take (rm + 1)).Sublist T := (List.take_sublist _ _).trans (List.drop_sublist _ _)
  have all : ∀ x ∈ (T.drop (i - rm)).take (rm + 1), decide (hdI x = hdI (T.getD i [])) = true := fun x hx => by
    obtain ⟨q, hq, rfl⟩ := List.mem_iff_getElem.mp hx
    rw [List.length_take, List.length_drop] at hq
    have hq2 : i - rm + q < T.length := by omega
    have ex : ((T.drop (i - rm)).take (rm + 1))[q]'(by rw [List.length_take, List.length_drop]; omega) = T.getD (i - rm + q) [] := by
      rw [List.getElem_take, List.getElem_drop, List.getD_eq_getElem?_getD, List.getElem?_eq_getElem hq2]; rfl
    rw [ex]
    have a1 := hd_mono R hq2 (show i - rm ≤ i - rm + q by omega)
    have a2 := hd_mono R h2 (show i - rm + q ≤ i by omega)
    exact decide_eq_true (by omega)
  have f1 := (sub.filter fun x => decide (hdI x = hdI (T.getD i []))).length_le
  rw [List.filter_eq_self.mpr all, List.length_take, List.length_drop] at f1
  omega
theorem cnt_tLt {j k : Nat} {l : Lt} {r : List Int} (t : Int) (h : r.length = l.1.length) : ∀ p, p ≤ l.1.length → ((tLt ((j : Nat) : Int) k l r p).filter fun x => decide (hdI x = t)).length = ((l.1.zip r).take p).count (j, t)
  | 0, _ => rfl
  | p + 1, hp => by
    have ih := cnt_tLt (j := j) (k := k) t h p (by omega)
    have ez : (l.1.zip r)[p]? = some (l.1.getD p 0, r.getD p 0) := by
      rw [List.getElem?_zip_eq_some, List.getD_eq_getElem?_getD, List.getD_eq_getElem?_getD, List.getElem?_eq_getElem (show p < l.1.length by omega), List.getElem?_eq_getElem (show p < r.length by omega)]; exact ⟨rfl, rfl⟩
    rw [tLt_succ, List.filter_append, List.length_append, ih, take_more ez, List.count_append, List.count_singleton]
    congr 1
    unfold tAt
    by_cases g : ((l.1.getD p 0 : Nat) : Int) = ((j : Nat) : Int)
    · have g1 : l.1.getD p 0 = j := by omega
      rw [if_pos g, List.filter_cons, List.filter_nil]
      by_cases g2 : r.getD p 0 = t
      · have e : (l.1.getD p 0, r.getD p 0) = (j, t) := by rw [g1, g2]
        have d : decide (hdI [r.getD p 0, ((k : Nat) : Int), ((p : Nat) : Int)] = t) = true := decide_eq_true g2
        rw [if_pos (beq_iff_eq.mpr e), if_pos d]; rfl
      · have e : ¬ (l.1.getD p 0, r.getD p 0) = (j, t) := fun z => g2 (congrArg Prod.snd z)
        have d : ¬ decide (hdI [r.getD p 0, ((k : Nat) : Int), ((p : Nat) : Int)] = t) = true := fun z => g2 (of_decide_eq_true z)
        rw [if_neg (fun z => e (beq_iff_eq.mp z)), if_neg d]; rfl
    · have e : ¬ (l.1.getD p 0, r.getD p 0) = (j, t) := fun z => g (by have := congrArg Prod.fst z; have this : l.1.getD p 0 = j := this; rw [this])
      rw [if_neg g, if_neg (fun z => e (beq_iff_eq.mp z))]; rfl
theorem es_fm : ∀ (ls : List Lt) (rows : List (List Int)), rows.length = ls.length → es ls rows = (List.range ls.length).flatMap fun k => (ls.getD k ([], 0)).1.zip (rows.getD k [])
  | [], [], _ => rfl
  | [], _ :: _, h => by cases h
  | _ :: _, [], h => by cases h
  | l :: ls, r :: rows, h => by
    rw [es_cons, es_fm ls rows (by simpa using h), List.length_cons, List.range_succ_eq_map, List.flatMap_cons, List.flatMap_map]
    rfl
theorem cnt_road (ln : LenOk ls rows) (j : Nat) (t : Int) : ((roadT ls rows j).filter fun x => decide (hdI x = t)).length = (es ls rows).count (j, t) := by
  rw [((roadT_perm j).filter _).length_eq, es_fm ls rows ln.1]
  have key : ∀ m, m ≤ ls.length → ((tAll ((j : Nat) : Int) ls rows m).filter fun x => decide (hdI x = t)).length = ((List.range m).flatMap fun k => (ls.getD k ([], 0)).1.zip (rows.getD k [])).count (j, t) := by
    intro m
    induction m with
    | zero => intro _; rfl
    | succ m ih =>
      intro hm
      have e1 : ls[m]? = some ls[m] := List.getElem?_eq_getElem (by omega)
      have e2 : rows[m]? = some (rows[m]'(by have := ln.1; omega)) := List.getElem?_eq_getElem _
      have lr := ln.2 m _ _ e1 e2
      rw [tAll_succ e1 e2, fm_succ, List.filter_append, List.length_append, List.count_append, ih (by omega), cnt_tLt t lr _ (Nat.le_refl _), getD_of e1, getD_of e2, List.take_of_length_le (by rw [List.length_zip]; omega)]
  exact key _ (Nat.le_refl _)
theorem cap_road {rds : List D} {rm tm : List Int} (dk : DayOk rds rm tm ls rows) (j : Nat) (hb : 0 ≤ rm.getD j 0) (t : Int) : ((roadT ls rows j).filter fun x => decide (hdI x = t)).length ≤ (rm.getD j 0).toNat := by
  rw [cnt_road dk.n]
  have f := dk.f
  unfold fullB at f
  by_cases g : (es ls rows).count (j, t) = 0
  · omega
  · have hm : (j, t) ∈ es ls rows := List.count_pos_iff.mp (by omega)
    rw [List.any_eq_false] at f
    have := f _ hm
    simp only [decide_eq_true_eq] at this
    omega
end
end Hc


set_option Elab.async false
set_option linter.all false
set_option pp.maxSteps 600
set_option maxRecDepth 100000
set_option maxHeartbeats 1000000
set_option autoImplicit false
namespace Hc
open PySem L2
theorem same_put {H H' : Hp} {p : Addr} {o : HO} (s : Same H H') (e : H p = none) : Same H (upd H' p o) := fun b u q => by
  rw [upd_ne (ne_of_none q e)]; exact s _ _ q
theorem free_of {H H' : Hp} (s : Same H H') {b : Addr} (e : H' b = none) : H b = none := by
  cases z : H b with
  | none => rfl
  | some o => rw [s _ _ z] at e; cases e
theorem told_at {L w : List Nat} {is : List Int} {p : Nat} (hp : p < w.length) (hi : p < is.length) (hL : w.getD p 0 ∈ L) : (toldL L w is)[p]? = some (.int (is.getD p 0)) := by
  have ez : (w.zip is)[p]? = some (w.getD p 0, is.getD p 0) := by
    rw [List.getElem?_zip_eq_some, List.getD_eq_getElem?_getD, List.getD_eq_getElem?_getD, List.getElem?_eq_getElem hp, List.getElem?_eq_getElem hi]; exact ⟨rfl, rfl⟩
  unfold toldL
  rw [List.getElem?_map, ez]
  show some (if w.getD p 0 ∈ L then V.int (is.getD p 0) else .non) = _
  rw [if_pos hL]
theorem turn_at {ls : List Lt} {rows : List (List Int)} {i p : Nat} {l : Lt} {r : List Int} (e1 : ls[i]? = some l) (e2 : rows[i]? = some r) (hp : p < l.1.length) : ((List.range l.1.length).map fun p => ((rk (srtC (pAll ls rows ls.length)) (pAt i l r p) : Nat) : Int)).getD p 0 = (((roadT ls rows (l.1.getD p 0)).idxOf [r.getD p 0, ((i : Nat) : Int), ((p : Nat) : Int)] : Nat) : Int) := by
  have hm : pAt i l r p ∈ srtC (pAll ls rows ls.length) := (srtC_ok _).1.mem_iff.mpr (mem_pAll.mpr ⟨i, p, (List.getElem?_eq_some_iff.mp e1).1, by rw [getD_of e1]; exact hp, by rw [getD_of e1, getD_of e2]⟩)
  rw [List.getD_eq_getElem?_getD, List.getElem?_map, List.getElem?_range hp]
  show ((rk (srtC (pAll ls rows ls.length)) (pAt i l r p) : Nat) : Int) = _
  rw [← idx_road (q := pAt i l r p) (road_inj (srtC_ok _).1 hm) hm]; rfl
/-- the data of two lists are alike -/
theorem dpAllP {K : PySem.W.Frag} {H : Hp} {h : Addr} {n : Nat} : ∀ {xs : List V} {ds : List D}, RpA H h xs ds → ds.all (isIn n) = true → DpAll K H xs (ds.map (pDn n))
  | _, _, .nil, _ => .nil
  | _, _, .cons r ra, i => by
    rw [List.all_cons, Bool.and_eq_true] at i
    exact .cons (dpP n r i.1) (dpAllP ra i.2)
theorem neL_same {K : PySem.W.Frag} {H : Hp} {h : Addr} {n : Nat} (hn : n < 64) {a b : Addr} {xs ys : List V} {ds : List D} {Q : VK} (e1 : H a = some (.lst xs)) (e2 : H b = some (.lst ys)) (r1 : RpA H h xs ds) (r2 : RpA H h ys ds) (i : ds.all (isIn n) = true) (k : Q (.bl false) H) : rNeD K (.ref a) (.ref b) H Q := by
  have l1 : PyData.canLayAll0 (ds.map (pDn n)) = true := (layP (n + 1) (.tup ds)).1
  have d1 : PyData.depthAll (ds.map (pDn n)) + 1 ≤ n + 1 := (layP (n + 1) (.tup ds)).2
  have sh : SeqAt.shaped (.list (ds.map (pDn n))) = true := by
    show (PyData.canLayAll0 (ds.map (pDn n)) && decide (PyData.depthAll (ds.map (pDn n)) + 1 ≤ 64)) = true
    rw [l1, decide_eq_true (by omega)]; rfl
  refine ⟨.list (ds.map (pDn n)), .list (ds.map (pDn n)), .lst (SqL.of e1) (dpAllP r1 i), .lst (SqL.of e2) (dpAllP r2 i), sh, sh, ?_⟩
  rw [PySem.SeqAt.eqv_refl _ (show PyData.canLay0 (.list (ds.map (pDn n))) = true from l1)]
  exact k
/-- a list of tuples of ints, as things -/
theorem RsAt.rp {H : Hp} {h a : Addr} {L : List (Addr × List Int)} (x : RsAt H a L) (hl : ∀ p ∈ L, p.2.length ≤ 1000) : RpA H h (L.map fun p => V.ref p.1) ((L.map (·.2)).map fun r => D.tup (r.map D.int)) := by
  have key : ∀ L : List (Addr × List Int), (∀ p ∈ L, H p.1 = some (.tup (p.2.map V.int)) ∧ p.2 ≠ []) → (∀ p ∈ L, p.2.length ≤ 1000) → RpA H h (L.map fun p => V.ref p.1) ((L.map (·.2)).map fun r => D.tup (r.map D.int)) := by
    intro L
    induction L with
    | nil => intro _ _; exact .nil
    | cons p L ih =>
      intro f g
      refine .cons (.tup (f p (List.mem_cons_self ..)).1 ?_ (RpA.ints _)) (ih (fun q hq => f q (List.mem_cons_of_mem _ hq)) fun q hq => g q (List.mem_cons_of_mem _ hq))
      have := g p (List.mem_cons_self ..)
      rw [List.length_map]; omega
  exact key L x.2 hl
theorem isIn_rs (R : List (List Int)) : (R.map fun r => D.tup (r.map D.int)).all (isIn 1) = true := by
  rw [List.all_eq_true]
  intro d hd
  obtain ⟨r, _, rfl⟩ := List.mem_map.mp hd
  rw [isIn_tup]; exact isIn_ints r
section
variable {P : Program} {w : World} {K : PySem.W.Frag} {mg : Str → Option Value} {base : Heap}
def spPsg : Sp := fun vs H Q _ => ∃ (h : Addr) (v1 v2 : V) (ls : List Lt) (rows : List (List Int)) (L : List Nat) (j : Nat), vs = [v1, v2, .int (j : Nat)] ∧ CdAt H h v1 L ls rows rows ∧ CdAt H h v2 L ls rows (itsC ls rows) ∧ LenOk ls rows ∧ ls.length ≤ 60 ∧ (∀ l ∈ ls, l.1.length ≤ 8 ∧ ∀ i ∈ l.1, i ∈ L) ∧
  ∀ p LL H', Same H H' → RsAt H' p LL → LL.map (·.2) = psF (roadT ls rows j) → Q (.ref p) H'
theorem ok__law_passings (T : Tx K mg) : FnOk P w K mg base CX0 1 T._law_passings.f T._law_passings.fd ["_law_first", "_law_second", "_law_road"] spPsg := by
  refine T._law_passings.F.ok sc_law_passings (fun vs H Q E h => ?_) (fun cdv A outer s H vs Q E hr h => ?_)
  · obtain ⟨_, _, _, _, _, _, _, rfl, _⟩ := h
    rfl
  · obtain ⟨h, v1, v2, ls, rows, L, j, rfl, ⟨q1, xs1, rfl, e1, l1, f1⟩, ⟨q2, xs2, rfl, e2, l2, f2⟩, ln, l60, lw, kq⟩ := h
    refine ⟨_, (pss_cons (ps_set (i := 3) sc_law_passings.nd rfl (Or.inl rfl) (pe_lst pa_nil))
      (pss_cons (ps_for PassesOwn.never rfl (pi_range1 (by rfl) T.n_range (pa_cons (pe_callB call_len_seq (by rfl) T.n_len (by decide +kernel) (pa_cons (pv 0) pa_nil)) pa_nil)) (pg_name (i := 4) sc_law_passings.nd rfl (Or.inl rfl))
      (pss_cons (ps_set (i := 5) sc_law_passings.nd rfl (Or.inl rfl) (pe_ix ix_tup (pe_ix ix_tup (pv 0) (pv 4) (fun _ _ => rfl)) pe_int (fun _ _ => rfl)))
      (pss_one (ps_for PassesOwn.never rfl (pi_range1 (by rfl) T.n_range (pa_cons (pe_callB call_len_seq (by rfl) T.n_len (by decide +kernel) (pa_cons (pv 5) pa_nil)) pa_nil)) (pg_name (i := 6) sc_law_passings.nd rfl (Or.inl rfl))
      (pss_one (ps_if (pt_cmpR op_eq (pe_ix ix_tup (pv 5) (pv 6) (fun _ _ => rfl)) (pv 2) (nomark _))
      (pss_one (ps_expr (pe_bm PySem.F.plainAttrs_list PySem.F.slot_list_append PySem.F.type_list_append mt_append (pv 3) (pa_cons (pe_tup (pa_cons (pe_ix ix_tup (pe_ix ix_tup (pe_ix ix_tup (pv 1) (pv 4) (fun _ _ => rfl)) pe_int (fun _ _ => rfl)) (pv 6) (fun _ _ => rfl)) (pa_cons (pe_ix ix_tup (pe_ix ix_tup (pe_ix ix_tup (pv 0) (pv 4) (fun _ _ => rfl)) pe_int (fun _ _ => rfl)) (pv 6) (fun _ _ => rfl)) (pa_cons (pv 4) pa_nil)))) pa_nil))))
      pss_nil))))))
      (pss_one (ps_ret (pe_callB cr_sortedR (by rfl) T.n_sorted (by decide +kernel) (pa_cons (pv 3) pa_nil)))))), ?_⟩
    refine ⟨by show 0 ≤ sizeLine; decide, fun F hF => ?_⟩
    have s0 := same_upd (o := .lst []) hF
    have r0 : RsAt (upd H F (.lst [])) F [] := RsAt.nil upd_same
    generalize upd H F (.lst []) = H1 at s0 r0 ⊢
    refine ⟨_, rfl, q1, _, rfl, .inr (SqT.of (s0 _ _ e1)), ?_⟩
    refine ⟨((xs1.length : Nat) : Int), rfl, by omega, by omega, for_range (lo := 0) (n := ((xs1.length : Nat) : Int).toNat) (fun i σ' H' => ∃ (o4 o5 o6 : Option V) (LL : List (Addr × List Int)), σ' = [some (.ref q1), some (.ref q2), some (.int (j : Nat)), some (.ref F), o4, o5, o6] ∧ Same H H' ∧ RsAt H' F LL ∧ LL.length ≤ 8 * i ∧ LL.map (·.2) = fndT (roadT ls rows j) (tAll ((j : Nat) : Int) ls rows i)) ⟨_, _, _, [], rfl, s0, r0, Nat.zero_le _, rfl⟩ ?_ ?_⟩
    · clear s0 r0 H1
      rintro i σ' H2 hi ⟨o4, o5, o6, LL, rfl, s2, r2, lL, eL⟩
      rw [Int.zero_add]
      have hi : i < ls.length := by omega
      have ez : ls[i]? = some ls[i] := List.getElem?_eq_getElem hi
      have er : rows[i]? = some (rows[i]'(by have := ln.1; omega)) := List.getElem?_eq_getElem _
      have ei : (itsC ls rows)[i]? = _ := itsOf_at ez er
      obtain ⟨x1, hx1, t1, w1, u1, rfl, et1, rw1, eu1⟩ := f1 i _ _ _ ez er er
      obtain ⟨x2, hx2, t2, w2, u2, rfl, et2, _, eu2⟩ := f2 i _ _ _ ez er ei
      obtain ⟨aw, rfl, ew, _⟩ := nD_inv rw1
      have lr := ln.2 i _ _ ez er
      have l8 := lw _ (List.getElem_mem hi)
      have ta : ∀ p, p < ls[i].1.length → ((List.range ls[i].1.length).map fun p => ((rk (srtC (pAll ls rows ls.length)) (pAt i ls[i] (rows[i]'(by have := ln.1; omega)) p) : Nat) : Int)).getD p 0 = _ := fun p hp => turn_at ez er hp
      have lis : ((List.range ls[i].1.length).map fun p => ((rk (srtC (pAll ls rows ls.length)) (pAt i ls[i] (rows[i]'(by have := ln.1; omega)) p) : Nat) : Int)).length = ls[i].1.length := by rw [List.length_map, List.length_range]
      clear ei
      generalize ((List.range ls[i].1.length).map fun p => ((rk (srtC (pAll ls rows ls.length)) (pAt i ls[i] (rows[i]'(by have := ln.1; omega)) p) : Nat) : Int)) = is at ta eu2 lis
      have tas := tAll_succ (rd := ((j : Nat) : Int)) ez er
      generalize (rows[i]'(by have := ln.1; omega)) = row at *
      generalize ls[i] = l at *
      refine ⟨_, rfl, _, rfl, q1, _, _, .ref t1, rfl, rfl, SqT.of (s2 _ _ e1), atI_nat hx1, t1, _, 0, .ref aw, rfl, rfl, SqT.of (s2 _ _ et1), atI_nat (j := 0) rfl, _, rfl, aw, _, rfl, .inr (SqT.of (s2 _ _ ew)), ?_⟩
      have lm : (l.1.map fun j => V.int (j : Nat)).length = l.1.length := List.length_map ..
      refine ⟨(((l.1.map fun j => V.int (j : Nat)).length : Nat) : Int), rfl, by omega, by omega, for_range (lo := 0) (n := (((l.1.map fun j => V.int (j : Nat)).length : Nat) : Int).toNat) (fun p σ' H' => ∃ (o6 : Option V) (LL : List (Addr × List Int)), σ' = [some (.ref q1), some (.ref q2), some (.int (j : Nat)), some (.ref F), some (.int (i : Nat)), some (.ref aw), o6] ∧ Same H H' ∧ RsAt H' F LL ∧ LL.length ≤ 8 * i + p ∧ LL.map (·.2) = fndT (roadT ls rows j) (tAll ((j : Nat) : Int) ls rows i ++ tLt ((j : Nat) : Int) i l row p)) ⟨_, LL, rfl, s2, r2, by omega, by rw [eL]; show _ = fndT _ (_ ++ []); rw [List.append_nil]⟩ ?_ ?_⟩
      · clear s2 r2 lL eL LL
        rintro p σ' H3 hp ⟨o6, LL, rfl, s3, r3, lL, eL⟩
        rw [Int.zero_add]
        have hp : p < l.1.length := by omega
        have ap : (l.1.map fun j => V.int (j : Nat))[p]? = some (.int (l.1.getD p 0 : Nat)) := nat_at _ hp
        refine ⟨_, rfl, _, rfl, aw, _, _, _, rfl, rfl, SqT.of (s3 _ _ ew), atI_nat ap, _, rfl, rfl, _, rfl, ?_⟩
        rw [int_eqd]
        by_cases g : l.1.getD p 0 = j
        · rw [decide_eq_true (show ((l.1.getD p 0 : Nat) : Int) = (j : Nat) by omega)]
          have gL : l.1.getD p 0 ∈ L := l8.2 _ (by rw [List.getD_eq_getElem?_getD, List.getElem?_eq_getElem hp]; exact List.getElem_mem hp)
          refine iteT ⟨_, rfl, .inl ⟨rfl, _, SqL.of r3.1⟩, _, rfl, _, rfl, q2, _, _, .ref t2, rfl, rfl, SqT.of (s3 _ _ e2), atI_nat hx2, t2, _, 3, .ref u2, rfl, rfl, SqT.of (s3 _ _ et2), atI_nat (j := 3) rfl, _, rfl, u2, _, _, _, rfl, rfl, SqT.of (s3 _ _ eu2), atI_nat (told_at hp (by omega) gL), _, rfl, _, rfl, q1, _, _, .ref t1, rfl, rfl, SqT.of (s3 _ _ e1), atI_nat hx1, t1, _, 3, .ref u1, rfl, rfl, SqT.of (s3 _ _ et1), atI_nat (j := 3) rfl, _, rfl, u1, _, _, _, rfl, rfl, SqT.of (s3 _ _ eu1), atI_nat (told_at hp (by omega) gL), _, rfl, by show 3 ≤ sizeLine; decide, fun u hu => ?_⟩
          have s4 := same_upd (o := .tup [.int (is.getD p 0), .int (row.getD p 0), .int (i : Nat)]) hu
          have eu : (upd H3 u (.tup [.int (is.getD p 0), .int (row.getD p 0), .int (i : Nat)])) u = some (.tup (([is.getD p 0, row.getD p 0, ((i : Nat) : Int)] : List Int).map V.int)) := upd_same
          generalize upd H3 u (.tup [.int (is.getD p 0), .int (row.getD p 0), .int (i : Nat)]) = H4 at s4 eu ⊢
          have r4 := r3.same s4
          refine ⟨F, _, _, rfl, rfl, r4.1, by rw [List.length_map]; exact line_lt (by omega), _, LL ++ [(u, [is.getD p 0, row.getD p 0, ((i : Nat) : Int)])], rfl, same_put (s3.trans s4) hF, r4.snoc eu (by simp), by rw [List.length_append, List.length_singleton]; omega, ?_⟩
          rw [List.map_append, eL, tLt_succ, tAt_t (by omega), ta p hp, g]
          unfold fndT
          rw [← List.append_assoc, List.map_append (l₁ := _ ++ _)]
          rfl
        · rw [decide_eq_false (show ¬ ((l.1.getD p 0 : Nat) : Int) = (j : Nat) by omega)]
          refine iteF ⟨_, LL, rfl, s3, r3, by omega, ?_⟩
          rw [tLt_succ, tAt_f (by omega), List.append_nil]; exact eL
      rintro σ' H3 ⟨o6, LL, rfl, s3, r3, lL, eL⟩
      rw [show (((l.1.map fun j => V.int (j : Nat)).length : Nat) : Int).toNat = l.1.length by omega] at eL
      exact ⟨_, _, _, LL, rfl, s3, r3, by omega, by rw [eL, tas]⟩
    rintro σ' H2 ⟨o4, o5, o6, LL, rfl, s2, r2, lL, eL⟩
    rw [show ((xs1.length : Nat) : Int).toNat = ls.length by omega] at eL
    refine ⟨_, rfl, ?_⟩
    delta tNil
    dsimp only
    refine sorted_rs r2 fun p H3 LS s3 hp r3 so => ?_
    rw [eL] at so
    exact kq p LS H3 (s2.trans s3) r3 (so.uniq (ps_srt j))
end
end Hc


set_option Elab.async false
set_option linter.all false
set_option pp.maxSteps 600
set_option maxRecDepth 100000
set_option maxHeartbeats 1000000
set_option autoImplicit false
namespace Hc
open PySem L2
theorem slA_raw {K : PySem.W.Frag} {H : Hp} {a : Addr} {xs : List V} {lo hi : Option Int} {Q : VK} (e : H a = some (.tup xs)) (k : ∀ b H', Same H H' → H' b = some (.tup (cutV xs lo hi)) → Q (.ref b) H') : rSlA K (.ref a) lo hi H Q := by
  refine ⟨a, xs, rfl, SqT.of e, fun hw => ?_, fun _ p hp => k p _ (same_upd hp) upd_same⟩
  have : cutV xs lo hi = xs := by unfold cutV; rw [hw.1, hw.2, List.drop_zero, Nat.sub_zero, List.take_length]
  exact k a H (Same.refl _) (by rw [this]; exact e)
theorem at_of {xs : List V} {x : V} {i : Int} {j : Nat} (e : i = (j : Int)) (h : xs[j]? = some x) : atI xs i = some x := by
  subst e; exact atI_nat h
def upTo (n : Nat) : List Int := (List.range n).map fun j => ((j : Nat) : Int)
theorem upTo_succ (n : Nat) : upTo (n + 1) = upTo n ++ [((n : Nat) : Int)] := by
  unfold upTo
  rw [List.range_succ, List.map_append]; rfl
theorem rg_upTo (n : Nat) : rgV 0 ((n : Nat) : Int) = (upTo n).map V.int := by
  unfold rgV upTo
  rw [List.map_map, show ((((n : Nat) : Int) - 0).toNat) = n by omega]
  exact List.map_congr_left fun j _ => by rw [Int.zero_add]; rfl
theorem psF_at {T : List (List Int)} {i : Nat} (h : i < T.length) : (psF T)[i]? = some [((i : Nat) : Int), (T.getD i []).getD 0 0, (T.getD i []).getD 1 0] := by
  unfold psF
  rw [List.getElem?_map, List.getElem?_range h]; rfl
theorem psF_len (T : List (List Int)) : (psF T).length = T.length := by unfold psF; rw [List.length_map, List.length_range]
section
variable {P : Program} {w : World} {K : PySem.W.Frag} {mg : Str → Option Value} {base : Heap}
def spRoadFits : Sp := fun vs H Q _ => ∃ (rmv : Int) (a : Addr) (LL : List (Addr × List Int)) (T : List (List Int)), vs = [.int rmv, .ref a] ∧ RsAt H a LL ∧ LL.map (·.2) = psF T ∧ RoadOk T ∧ 1 ≤ rmv ∧ rmv ≤ 3 ∧ T.length ≤ 1000 ∧ (∀ i, rmv.toNat ≤ i → i < T.length → hdI (T.getD i []) ≠ hdI (T.getD (i - rmv.toNat) [])) ∧ ∀ H', Same H H' → Q (.bl true) H'
theorem ok__law_road_fits (T : Tx K mg) : FnOk P w K mg base CX0 1 T._law_road_fits.f T._law_road_fits.fd ["_law_rooms", "_law_passings_here"] spRoadFits := by
  refine T._law_road_fits.F.ok sc_law_road_fits (fun vs H Q E h => ?_) (fun cdv A outer s H vs Q E hr h => ?_)
  · obtain ⟨_, _, _, _, rfl, _⟩ := h
    rfl
  · obtain ⟨rmv, a, LL, T', rfl, rs, eT, R, r1, r3, l1000, nc, kq⟩ := h
    have lL : LL.length = T'.length := by
      have := congrArg List.length eT
      rw [List.length_map, psF_len] at this
      exact this
    have lat : ∀ i, i < T'.length → ∃ u, LL[i]? = some (u, [((i : Nat) : Int), (T'.getD i []).getD 0 0, (T'.getD i []).getD 1 0]) ∧ H u = some (.tup [.int (i : Nat), .int ((T'.getD i []).getD 0 0), .int ((T'.getD i []).getD 1 0)]) := fun i hi => by
      have e1 : LL[i]? = some LL[i] := List.getElem?_eq_getElem (by omega)
      have e2 : (LL.map (·.2))[i]? = some LL[i].2 := by rw [List.getElem?_map, e1]; rfl
      rw [eT, psF_at hi] at e2
      have e3 := Option.some.inj e2
      have e4 := (rs.2 LL[i] (List.getElem_mem _)).1
      rw [← e3] at e4
      refine ⟨LL[i].1, ?_, e4⟩
      rw [e1, e3]
    refine ⟨_, (pss_cons (ps_if (pt_cmpR (op_neD hr.units) (pe_lc (own := [("_law_passing", 3)]) (g := (gName 3)) (tt := tYes) (te := (tOp (rIxT K) (tVar 3) (tC (.int 0)))) rfl sc_law_road_fits.nd (pi_list (pv 1)) (blkOk_by (own := [("_law_passing", 3)]) (N := ["_law_rooms", "_law_passings_here", "_law_rows", "_law_passing", "_law_at"]) (sc := defScope s_law_road_fits) (by decide +kernel)) (fun _ _ _ _ _ => (pg_name (i := 3) sc_law_road_fits.nd rfl (Or.inl rfl))) (fun _ _ _ _ _ => pts_nil) (fun _ _ _ _ _ => (by exact (pe_ix ix_tup (pv 3) pe_int (fun _ _ => rfl))))) (pe_listRg rfl (by rfl) T.n_list (prg_1 (by rfl) T.n_range (pe_callB call_len_seq (by rfl) T.n_len (by decide +kernel) (pa_cons (pv 1) pa_nil)))) (nomark _))
      (pss_one (ps_ret pe_bl))
      pss_nil)
      (pss_cons (ps_set (i := 2) sc_law_road_fits.nd rfl (Or.inr rfl) (by exact (pe_lc (own := [("_law_passing", 3)]) (g := (gName 3)) (tt := tYes) (te := (tSl (rSlA K) (tVar 3) (tPart (tC (.int 1))) tNoPart)) rfl sc_law_road_fits.nd (pi_list (pv 1)) (blkOk_by (own := [("_law_passing", 3)]) (N := ["_law_rooms", "_law_passings_here", "_law_rows", "_law_passing", "_law_at"]) (sc := defScope s_law_road_fits) (by decide +kernel)) (fun _ _ _ _ _ => (pg_name (i := 3) sc_law_road_fits.nd rfl (Or.inl rfl))) (fun _ _ _ _ _ => pts_nil) (fun _ _ _ _ _ => (by exact (pe_slice sl_tupA (pv 3) (po_some pe_int) po_none))))))
      (pss_cons (ps_if (pt_cmpR (op_neD hr.units) (pv 2) (pe_callB cr_sortedR (by rfl) T.n_sorted (by decide +kernel) (pa_cons (pv 2) pa_nil)) (nomark _))
      (pss_one (ps_ret pe_bl))
      pss_nil)
      (pss_one (ps_ret (pe_cmpR op_eq (pe_callB call_len_seq (by rfl) T.n_len (by decide +kernel) (pa_cons (pe_lc (own := [("_law_at", 4)]) (g := (gName 4))  (tt := (tTest (tOp rEq (tOp (rIxT K) (tOp (rIxL K) (tVar 2) (tVar 4)) (tC (.int 0))) (tOp (rIxT K) (tOp (rIxL K) (tVar 2) (tOp (rI0 fun i j => .int (i - j)) (tVar 4) (tVar 0))) (tC (.int 0)))))) rfl sc_law_road_fits.nd (pi_range2 (by rfl) T.n_range (pa_cons (pv 0) (pa_cons (pe_callB call_len_seq (by rfl) T.n_len (by decide +kernel) (pa_cons (pv 2) pa_nil)) pa_nil))) (blkOk_by (own := [("_law_at", 4)]) (N := ["_law_rooms", "_law_passings_here", "_law_rows", "_law_passing", "_law_at"]) (sc := defScope s_law_road_fits) (by decide +kernel)) (fun _ _ _ _ _ => (pg_name (i := 4) sc_law_road_fits.nd rfl (Or.inl rfl))) (fun _ _ _ _ _ => (pts_one (by exact (pt_cmpR op_eq (pe_ix ix_tup (pe_ix ix_list (pv 2) (pv 4) (fun _ _ => rfl)) pe_int (fun _ _ => rfl)) (pe_ix ix_tup (pe_ix ix_list (pv 2) (pe_op op_sub (pv 4) (pv 0)) (fun _ _ => rfl)) pe_int (fun _ _ => rfl)) (nomark _))))) (fun _ _ _ _ _ => (by exact (pv 4)))) pa_nil)) pe_int (nomark _))))))), ?_⟩
    refine ⟨_, rfl, a, rfl, ⟨_, SqL.of rs.1⟩, fun D hD => ?_⟩
    refine lc_list (K := K) (a := a) (xs := LL.map fun p => V.ref p.1) (fun i H' => Same H H' ∧ H' D = some (.lst ((upTo i).map V.int))) ⟨same_upd hD, upd_same⟩ (fun i H' _ ⟨s, _⟩ => SqL.of (s _ _ rs.1)) ?_ ?_
    · rintro i x H1 hx ⟨s1, e1⟩
      have hi : i < T'.length := by
        have := (List.getElem?_eq_some_iff.mp hx).1
        rw [List.length_map] at this; omega
      obtain ⟨u, eu, hu⟩ := lat i hi
      rw [List.getElem?_map, eu] at hx
      obtain rfl := Option.some.inj hx
      refine ⟨rfl, tyes ⟨_, rfl, u, _, 0, _, rfl, rfl, SqT.of (s1 _ _ hu), atI_nat (j := 0) rfl, _, e1, ?_, same_put s1 hD, ?_⟩⟩
      · unfold upTo
        rw [List.length_map, List.length_map, List.length_range]; exact line_lt (by omega)
      · rw [upd_same, upTo_succ, List.map_append]; rfl
    rintro H1 ⟨s1, e1⟩
    rw [List.length_map, lL] at e1
    have rs1 := rs.same s1
    refine ⟨_, rfl, a, _, rfl, .inl (SqL.of rs1.1), ?_⟩
    have lm : (LL.map fun p => V.ref p.1).length = T'.length := by rw [List.length_map]; exact lL
    refine ⟨_, rfl, RgOk.of_le (by decide) (by omega) (by decide) (by omega), fun E2 hE => ?_⟩
    rw [lm, rg_upTo]
    have s2 := same_upd (o := .lst ((upTo T'.length).map V.int)) hE
    have e2 : (upd H1 E2 (.lst ((upTo T'.length).map V.int))) E2 = some (.lst ((upTo T'.length).map V.int)) := upd_same
    generalize upd H1 E2 (.lst ((upTo T'.length).map V.int)) = H2 at s2 e2 ⊢
    refine neL_same (n := 1) (h := 0) (by decide) (s2 _ _ e1) e2 (RpA.ints _) (RpA.ints _) (isIn_ints _) ?_
    refine ⟨_, rfl, iteF ?_⟩
    have rs2 := rs1.same s2
    have s02 := s1.trans s2
    clear e1 e2 s2 rs1 hE
    -- the rows
    refine ⟨_, rfl, a, rfl, ⟨_, SqL.of rs2.1⟩, fun D2 hD2 => ?_⟩
    refine lc_list (K := K) (a := a) (xs := LL.map fun p => V.ref p.1) (fun i H' => ∃ L2 : List (Addr × List Int), Same H2 H' ∧ RsAt H' D2 L2 ∧ L2.length = i ∧ L2.map (·.2) = (T'.map two).take i) ⟨[], same_upd hD2, RsAt.nil upd_same, rfl, rfl⟩ (fun i H' _ ⟨_, s, _⟩ => SqL.of (s _ _ rs2.1)) ?_ ?_
    · rintro i x H3 hx ⟨L2, s3, r3', l2, e3⟩
      have hi : i < T'.length := by
        have := (List.getElem?_eq_some_iff.mp hx).1
        rw [List.length_map] at this; omega
      obtain ⟨u, eu, hu⟩ := lat i hi
      rw [List.getElem?_map, eu] at hx
      obtain rfl := Option.some.inj hx
      refine ⟨rfl, tyes ⟨_, rfl, _, rfl, ?_⟩⟩
      try delta tNoPart
      refine slA_raw (s3 _ _ (s02 _ _ hu)) fun b H4 s4 e4 => ?_
      have e4 : H4 b = some (.tup (([(T'.getD i []).getD 0 0, (T'.getD i []).getD 1 0] : List Int).map V.int)) := e4
      have r4 := r3'.same s4
      refine ⟨_, r4.1, by rw [List.length_map]; exact line_lt (by omega), L2 ++ [(b, [(T'.getD i []).getD 0 0, (T'.getD i []).getD 1 0])], same_put (s3.trans s4) hD2, r4.snoc e4 (by simp), by rw [List.length_append, l2]; rfl, ?_⟩
      have et : (T'.map two)[i]? = some [(T'.getD i []).getD 0 0, (T'.getD i []).getD 1 0] := by
        rw [List.getElem?_map, List.getElem?_eq_getElem hi, List.getD_eq_getElem?_getD (l := T'), List.getElem?_eq_getElem hi]; rfl
      rw [List.map_append, e3, take_more et]; rfl
    rintro H3 ⟨L2, s3, r3', l2, e3⟩
    rw [lm] at l2
    rw [lm, show T'.length = (T'.map two).length from (List.length_map ..).symm, List.take_length] at e3
    refine ⟨_, rfl, _, rfl, ?_⟩
    delta tNil
    dsimp only
    refine sorted_rs r3' fun S H4 LS s4 hS r4 so => ?_
    rw [e3] at so
    have e4 : LS.map (·.2) = T'.map two := so.uniq (two_srt R)
    have two2 : ∀ (M : List (Addr × List Int)), M.map (·.2) = T'.map two → ∀ p ∈ M, p.2.length ≤ 1000 := fun M hM p hp => by
      have : p.2 ∈ T'.map two := by rw [← hM]; exact List.mem_map.mpr ⟨p, hp, rfl⟩
      obtain ⟨x, _, ex⟩ := List.mem_map.mp this
      rw [← ex]; show 2 ≤ 1000; omega
    have ra1 := (r3'.same s4).rp (h := 0) (two2 L2 e3)
    have ra2 := r4.rp (h := 0) (two2 LS e4)
    rw [e3] at ra1
    rw [e4] at ra2
    refine neL_same (n := 1) (by decide) (s4 _ _ r3'.1) r4.1 ra1 ra2 (isIn_rs _) ?_
    refine ⟨_, rfl, iteF ?_⟩
    have s04 := (s02.trans s3).trans s4
    have r34 := r3'.same s4
    clear ra1 ra2 r4 r3' s3 s4 hS
    refine ⟨_, rfl, _, rfl, D2, _, rfl, .inl (SqL.of r34.1), ?_⟩
    have lm2 : (L2.map fun p => V.ref p.1).length = T'.length := by rw [List.length_map]; exact l2
    refine ⟨rmv, (((L2.map fun p => V.ref p.1).length : Nat) : Int), rfl, ⟨by omega, by omega, by omega, by omega⟩, fun D3 hD3 => ?_⟩
    have l2at : ∀ i, i < T'.length → ∃ u x, L2[i]? = some (u, x) ∧ H4 u = some (.tup (x.map V.int)) ∧ x = two (T'.getD i []) := fun i hi => by
      have e1 : L2[i]? = some L2[i] := List.getElem?_eq_getElem (by omega)
      have e2 : (L2.map (·.2))[i]? = some L2[i].2 := by rw [List.getElem?_map, e1]; rfl
      rw [e3, List.getElem?_map, List.getElem?_eq_getElem hi] at e2
      refine ⟨L2[i].1, L2[i].2, e1, (r34.2 _ (List.getElem_mem _)).1, ?_⟩
      rw [List.getD_eq_getElem?_getD (l := T'), List.getElem?_eq_getElem hi]
      exact (Option.some.inj e2).symm
    refine lc_range (lo := rmv) (n := ((((L2.map fun p => V.ref p.1).length : Nat) : Int) - rmv).toNat) (fun i H' => Same H4 H' ∧ H' D3 = some (.lst [])) ⟨same_upd hD3, upd_same⟩ ?_ ?_
    · rintro i H5 hi ⟨s5, e5⟩
      have h1 : rmv.toNat + i < T'.length := by omega
      obtain ⟨u, x, hu1, hu2, hu3⟩ := l2at (rmv.toNat + i) h1
      obtain ⟨v, y, hv1, hv2, hv3⟩ := l2at i (by omega)
      have ne := nc (rmv.toNat + i) (by omega) h1
      rw [show rmv.toNat + i - rmv.toNat = i by omega] at ne
      have a1 : (L2.map fun p => V.ref p.1)[rmv.toNat + i]? = some (.ref u) := by rw [List.getElem?_map, hu1]; rfl
      have a2 : (L2.map fun p => V.ref p.1)[i]? = some (.ref v) := by rw [List.getElem?_map, hv1]; rfl
      rw [hu3] at hu2
      rw [hv3] at hv2
      refine ⟨rfl, _, rfl, _, rfl, D2, _, _, .ref u, rfl, rfl, SqL.of (s5 _ _ r34.1), at_of (j := rmv.toNat + i) (by omega) a1, u, _, 0, .int ((T'.getD (rmv.toNat + i) []).getD 0 0), rfl, rfl, SqT.of (s5 _ _ hu2), atI_nat (j := 0) rfl, _, rfl, _, rfl, _, rfl, _, _, rfl, rfl, D2, _, _, .ref v, rfl, rfl, SqL.of (s5 _ _ r34.1), at_of (j := i) (by omega) a2, v, _, 0, .int ((T'.getD i []).getD 0 0), rfl, rfl, SqT.of (s5 _ _ hv2), atI_nat (j := 0) rfl, rfl, _, rfl, ?_⟩
      rw [int_eqd, decide_eq_false (show ¬ (T'.getD (rmv.toNat + i) []).getD 0 0 = (T'.getD i []).getD 0 0 from ne)]
      exact iteF ⟨s5, e5⟩
    rintro H5 ⟨s5, e5⟩
    exact ⟨D3, _, rfl, .inl (SqL.of e5), rfl, kq H5 (s04.trans s5)⟩
end
end Hc


set_option Elab.async false
set_option linter.all false
set_option pp.maxSteps 600
set_option maxRecDepth 100000
set_option maxHeartbeats 1000000
set_option autoImplicit false
namespace Hc
open PySem L2
section
variable {P : Program} {w : World} {K : PySem.W.Frag} {mg : Str → Option Value} {base : Heap}
def spLess : Sp := fun vs H Q _ => ∃ (h aL : Addr) (v : V) (ls : List Lt) (rows its : List (List Int)) (L0 L : List Nat), vs = [v, .ref aL] ∧ CdAt H h v L0 ls rows its ∧ H aL = some (.tup (L.map fun j => V.int (j : Nat))) ∧ LenOk ls rows ∧ its.length = ls.length ∧ (∀ (k : Nat) (l : Lt) (is : List Int), ls[k]? = some l → its[k]? = some is → is.length = l.1.length) ∧ ls.length ≤ 60 ∧ (∀ l ∈ ls, l.1.length ≤ 8 ∧ ∀ i ∈ l.1, i ∈ L0) ∧
  ∀ v' H', Same H H' → CdAt H' h v' L ls rows its → Q v' H'
theorem ok__law_less (T : Tx K mg) : FnOk P w K mg base CX0 1 T._law_less.f T._law_less.fd ["_law_told", "_law_lot_here"] spLess := by
  refine T._law_less.F.ok sc_law_less (fun vs H Q E h => ?_) (fun cdv A outer s H vs Q E hr h => ?_)
  · obtain ⟨_, _, _, _, _, _, _, _, rfl, _⟩ := h
    rfl
  · obtain ⟨h, aL, v, ls, rows, its, L0, L, rfl, ⟨q, xs, rfl, e, lx, f⟩, eL, ln, li, lis, l60, lw, kq⟩ := h
    refine ⟨_, (pss_cons (ps_set (i := 2) sc_law_less.nd rfl (Or.inl rfl) (pe_lst pa_nil))
      (pss_cons (ps_for PassesOwn.never rfl (pi_tup (pv 0)) (pg_tup (by rfl) (pgs_cons (pg_name (i := 3) sc_law_less.nd rfl (Or.inr rfl)) (pgs_cons (pg_name (i := 4) sc_law_less.nd rfl (Or.inl rfl)) (pgs_cons (pg_name (i := 5) sc_law_less.nd rfl (Or.inl rfl)) (pgs_cons (pg_name (i := 6) sc_law_less.nd rfl (Or.inr rfl)) pgs_nil)))))
      (pss_one (ps_expr (pe_bm PySem.F.plainAttrs_list PySem.F.slot_list_append PySem.F.type_list_append mt_append (pv 2) (pa_cons (pe_tup (pa_cons (pv 3) (pa_cons (pv 4) (pa_cons (pv 5) (pa_cons (pe_callTy call_tuple_of (by rfl) T.n_tuple (by decide +kernel) (pa_cons (pe_lc (own := [("_law_place", 7)]) (g := (gName 7)) (tt := tYes) (te := (tIf (tTest (tOp (rIn K false) (tOp (rIxT K) (tVar 3) (tVar 7)) (tVar 1))) (tOp (rIxT K) (tVar 6) (tVar 7)) (tC .non))) rfl sc_law_less.nd (pi_range1 (by rfl) T.n_range (pa_cons (pe_callB call_len_seq (by rfl) T.n_len (by decide +kernel) (pa_cons (pv 3) pa_nil)) pa_nil)) (blkOk_by (own := [("_law_place", 7)]) (N := ["_law_told", "_law_lot_here", "_law_found", "_law_way_here", "_law_come", "_law_home", "_law_row", "_law_place"]) (sc := defScope s_law_less) (by decide +kernel)) (fun _ _ _ _ _ => (pg_name (i := 7) sc_law_less.nd rfl (Or.inl rfl))) (fun _ _ _ _ _ => pts_nil) (fun _ _ _ _ _ => (by exact (pe_ifExp (pt_cmpR op_in_seq (pe_ix ix_tup (pv 3) (pv 7) (fun _ _ => rfl)) (pv 1) (by rfl)) (pe_ix ix_tup (pv 6) (pv 7) (fun _ _ => rfl)) pe_non)))) pa_nil)) pa_nil))))) pa_nil)))))
      (pss_one (ps_ret (pe_callTy call_tuple_of (by rfl) T.n_tuple (by decide +kernel) (pa_cons (pv 2) pa_nil)))))), ?_⟩
    refine ⟨by show 0 ≤ sizeLine; decide, fun F hF => ?_⟩
    have m0 : Same H (Msk F (upd H F (.lst []))) := Msk.of hF (same_upd hF)
    have e0 : (upd H F (.lst [])) F = some (.lst []) := upd_same
    generalize upd H F (.lst []) = H0 at m0 e0 ⊢
    have ms := fun H' => Msk.same F H'
    refine ⟨_, rfl, q, rfl, ⟨_, SqT.of ((Msk.inv (m0 _ _ e)).2)⟩, for_tup (xs := xs) (fun i σ' H' => ∃ (o3 o4 o5 o6 : Option V) (zs : List V), σ' = [some (.ref q), some (.ref aL), some (.ref F), o3, o4, o5, o6, none] ∧ Same H (Msk F H') ∧ H' F = some (.lst zs) ∧ zs.length = i ∧
        ∀ (k : Nat) (l : Lt) (row is : List Int), k < i → ls[k]? = some l → rows[k]? = some row → its[k]? = some is → ∃ x, zs[k]? = some x ∧ CdOne (Msk F H') h x L l row is)
      ⟨_, _, _, _, [], rfl, m0, e0, rfl, fun k l row is hk => by omega⟩ (fun i σ' H' _ ⟨_, _, _, _, _, _, s, _⟩ => SqT.of ((Msk.inv (s _ _ e)).2)) ?_ ?_⟩
    · clear m0 e0 H0
      rintro i x σ' H1 hx ⟨o3, o4, o5, o6, zs, rfl, s1, eF, lz, fz⟩
      have hi : i < ls.length := by rw [← lx]; exact (List.getElem?_eq_some_iff.mp hx).1
      have ez : ls[i]? = some ls[i] := List.getElem?_eq_getElem hi
      have er : rows[i]? = some (rows[i]'(by have := ln.1; omega)) := List.getElem?_eq_getElem _
      have ei : its[i]? = some (its[i]'(by omega)) := List.getElem?_eq_getElem _
      obtain ⟨x', hx', t, w, u, rfl, et, rw1, eu⟩ := f i _ _ _ ez er ei
      rw [hx] at hx'
      cases hx'
      obtain ⟨aw, rfl, ew, _⟩ := nD_inv rw1
      have l8 := lw _ (List.getElem_mem hi)
      have lisi := lis i _ _ ez ei
      generalize hrow : (rows[i]'(by have := ln.1; omega)) = row at *
      generalize his : (its[i]'(by omega)) = is at *
      generalize hl : ls[i] = l at *
      have d1 : ∀ b o, H b = some o → H1 b = some o := fun b o z => (Msk.inv (s1 _ _ z)).2
      refine ⟨t, _, rfl, SqT.of (d1 _ _ et), rfl, _, _, rfl, _, _, rfl, _, _, rfl, _, _, rfl, rfl, ?_⟩
      refine ⟨_, rfl, .inl ⟨rfl, _, SqL.of eF⟩, _, rfl, _, rfl, _, rfl, _, rfl, aw, _, rfl, .inr (SqT.of (d1 _ _ ew)), ?_⟩
      have lm : (l.1.map fun j => V.int (j : Nat)).length = l.1.length := List.length_map ..
      refine ⟨(((l.1.map fun j => V.int (j : Nat)).length : Nat) : Int), rfl, by omega, by omega, fun D hD => ?_⟩
      have lt8 : ∀ p, ((toldL L l.1 is).take p).length ≤ 8 := fun p => by
        rw [List.length_take]
        have : (toldL L l.1 is).length ≤ l.1.length := toldL_len
        omega
      refine lc_range (lo := 0) (n := (((l.1.map fun j => V.int (j : Nat)).length : Nat) : Int).toNat) (fun p H' => Same H1 H' ∧ H' D = some (.lst ((toldL L l.1 is).take p))) ⟨same_upd hD, upd_same⟩ ?_ ?_
      · rintro p H2 hp ⟨s2, e2⟩
        rw [Int.zero_add]
        have hp : p < l.1.length := by omega
        have ap : (l.1.map fun j => V.int (j : Nat))[p]? = some (.int (l.1.getD p 0 : Nat)) := nat_at _ hp
        have ez2 : (l.1.zip is)[p]? = some (l.1.getD p 0, is.getD p 0) := by
          rw [List.getElem?_zip_eq_some, List.getD_eq_getElem?_getD, List.getD_eq_getElem?_getD, List.getElem?_eq_getElem hp, List.getElem?_eq_getElem (show p < is.length by omega)]; exact ⟨rfl, rfl⟩
        have tk : (toldL L l.1 is).take (p + 1) = (toldL L l.1 is).take p ++ [if l.1.getD p 0 ∈ L then V.int (is.getD p 0) else .non] := take_more (by unfold toldL; rw [List.getElem?_map, ez2]; rfl)
        have gL : l.1.getD p 0 ∈ L0 := l8.2 _ (by rw [List.getD_eq_getElem?_getD, List.getElem?_eq_getElem hp]; exact List.getElem_mem hp)
        have fin : ∀ y, y = (if l.1.getD p 0 ∈ L then V.int (is.getD p 0) else .non) → ∃ acc, H2 D = some (.lst acc) ∧ acc.length < sizeLine ∧ Same H1 (upd H2 D (.lst (acc ++ [y]))) ∧ (upd H2 D (.lst (acc ++ [y]))) D = some (.lst ((toldL L l.1 is).take (p + 1))) := fun y hy => by
          subst hy
          exact ⟨_, e2, line_lt (by have := lt8 p; omega), same_put s2 hD, by rw [upd_same, tk]⟩
        refine ⟨rfl, tyes ⟨_, rfl, _, rfl, aw, _, _, _, rfl, rfl, SqT.of (s2 _ _ (d1 _ _ ew)), atI_nat ap, _, rfl, aL, _, rfl, .inr (SqT.of (s2 _ _ (d1 _ _ eL))), rfl, flat_nat L, _, rfl, ?_⟩⟩
        rw [if_neg (by decide), in_nat]
        by_cases g : l.1.getD p 0 ∈ L
        · rw [decide_eq_true g]
          exact iteT ⟨_, rfl, _, rfl, u, _, _, _, rfl, rfl, SqT.of (s2 _ _ (d1 _ _ eu)), atI_nat (told_at hp (by omega) gL), fin _ (if_pos g).symm⟩
        · rw [decide_eq_false g]
          exact iteF (fin _ (if_neg g).symm)
      rintro H2 ⟨s2, e2⟩
      rw [List.take_of_length_le (by have : (toldL L l.1 is).length ≤ l.1.length := toldL_len; omega)] at e2
      refine ⟨D, _, rfl, .inl ⟨SqL.of e2, fun u2 hu2 => ?_⟩⟩
      have s3 := same_upd (o := .tup (toldL L l.1 is)) hu2
      have e3 : (upd H2 u2 (.tup (toldL L l.1 is))) u2 = some (.tup (toldL L l.1 is)) := upd_same
      generalize upd H2 u2 (.tup (toldL L l.1 is)) = H3 at s3 e3 ⊢
      refine ⟨by show 4 ≤ sizeLine; decide, fun t2 ht2 => ?_⟩
      have s4 := same_upd (o := .tup [.ref aw, .int l.2, .int (lastOf row), .ref u2]) ht2
      have e4 : (upd H3 t2 (.tup [.ref aw, .int l.2, .int (lastOf row), .ref u2])) t2 = some (.tup [.ref aw, .int l.2, .int (lastOf row), .ref u2]) := upd_same
      generalize upd H3 t2 (.tup [.ref aw, .int l.2, .int (lastOf row), .ref u2]) = H4 at s4 e4 ⊢
      have s14 := (s2.trans s3).trans s4
      have eF4 := s14 _ _ eF
      have e34 := s4 _ _ e3
      have ew4 := s14 _ _ (d1 _ _ ew)
      have nt : ∀ {b : Addr} {ys : List V}, H4 b = some (.tup ys) → b ≠ F := fun e z => by subst z; rw [eF4] at e; cases e
      have mS : Same (Msk F H4) (Msk F (upd H4 F (.lst (zs ++ [.ref t2])))) := Msk.upd (Msk.same F H4)
      refine ⟨F, zs, _, rfl, rfl, eF4, line_lt (by omega), _, _, _, _, zs ++ [.ref t2], rfl, Msk.upd' (s1.trans (Msk.mono s14)), upd_same, by rw [List.length_append, lz]; rfl, fun k l' row' is' hk a1 a2 a3 => ?_⟩
      by_cases c : k < i
      · obtain ⟨x, g1, g2⟩ := fz k l' row' is' c a1 a2 a3
        exact ⟨x, by rw [List.getElem?_append_left (by omega)]; exact g1, (g2.same (Msk.mono s14)).same mS⟩
      · obtain rfl : k = i := by omega
        rw [ez] at a1
        rw [er] at a2
        rw [ei] at a3
        cases a1
        cases a2
        cases a3
        refine ⟨.ref t2, by rw [List.getElem?_append_right (by omega), lz, Nat.sub_self]; rfl, ?_⟩
        exact CdOne.same ⟨t2, .ref aw, u2, rfl, Msk.mk (nt e4) e4, nD_mk (Msk.mk (nt ew4) ew4) (by omega), Msk.mk (nt e34) e34⟩ mS
    rintro σ' H1 ⟨o3, o4, o5, o6, zs, rfl, s1, eF, lz, fz⟩
    refine ⟨_, rfl, F, _, rfl, .inl ⟨SqL.of eF, fun Z hZ => ?_⟩⟩
    have s2 := same_upd (o := .tup zs) hZ
    have s02 : Same H (upd H1 Z (.tup zs)) := fun b o z => s2 _ _ (Msk.inv (s1 _ _ z)).2
    refine kq (.ref Z) _ s02 ⟨Z, zs, rfl, upd_same, by omega, fun k l row is a1 a2 a3 => ?_⟩
    obtain ⟨x, g1, g2⟩ := fz k l row is (by rw [lx]; exact (List.getElem?_eq_some_iff.mp a1).1) a1 a2 a3
    exact ⟨x, g1, (g2.same (Msk.same F H1)).same s2⟩
end
end Hc


set_option Elab.async false
set_option linter.all false
set_option pp.maxSteps 600
set_option maxRecDepth 100000
set_option maxHeartbeats 1000000
set_option autoImplicit false
namespace Hc
open PySem L2
/-! ### cards as data -/
def vP : V → PyData
  | .int i => .int i
  | _ => .none
def flatP : PyData → Bool
  | .int _ => true
  | .none => true
  | _ => false
theorem lay_flat : ∀ l : List PyData, (∀ d ∈ l, flatP d = true) → PyData.canLayAll0 l = true ∧ PyData.depthAll l = 0
  | [], _ => ⟨rfl, rfl⟩
  | d :: l, h => by
    obtain ⟨h1, h2⟩ := lay_flat l fun x hx => h x (List.mem_cons_of_mem _ hx)
    have hd := h d (List.mem_cons_self ..)
    cases d with
    | int i =>
      constructor
      · show (true && PyData.canLayAll0 l) = true
        rw [h1]; rfl
      · show max 0 (PyData.depthAll l) = 0
        rw [h2]; rfl
    | none =>
      constructor
      · show (true && PyData.canLayAll0 l) = true
        rw [h1]; rfl
      · show max 0 (PyData.depthAll l) = 0
        rw [h2]; rfl
    | _ => exact Bool.noConfusion hd
def itP (L : List Nat) (l : Lt) (is : List Int) : List PyData := (toldL L l.1 is).map vP
def cardP (L : List Nat) (l : Lt) (row is : List Int) : PyData := .tuple [.tuple (l.1.map fun j => .int (j : Nat)), .int l.2, .int (lastOf row), .tuple (itP L l is)]
theorem itP_flat (L : List Nat) (l : Lt) (is : List Int) : ∀ d ∈ itP L l is, flatP d = true := fun d hd => by
  unfold itP toldL at hd
  rw [List.map_map] at hd
  obtain ⟨p, _, rfl⟩ := List.mem_map.mp hd
  show flatP (vP (if p.1 ∈ L then V.int p.2 else .non)) = true
  by_cases g : p.1 ∈ L
  · rw [if_pos g]; rfl
  · rw [if_neg g]; rfl
theorem lay_card (L : List Nat) (l : Lt) (row is : List Int) : (cardP L l row is).canLay0 = true ∧ (cardP L l row is).depth ≤ 2 := by
  obtain ⟨h1, h2⟩ := lay_flat (l.1.map fun j => PyData.int (j : Nat)) (fun d hd => by obtain ⟨j, _, rfl⟩ := List.mem_map.mp hd; rfl)
  obtain ⟨h3, h4⟩ := lay_flat _ (itP_flat L l is)
  constructor
  · show (PyData.canLayAll0 (l.1.map fun j => PyData.int (j : Nat)) && (true && (true && (PyData.canLayAll0 (itP L l is) && true)))) = true
    rw [h1, h3]; rfl
  · show max (PyData.depthAll (l.1.map fun j => PyData.int (j : Nat)) + 1) (max 0 (max 0 (max (PyData.depthAll (itP L l is) + 1) 0))) + 1 ≤ 2
    rw [h2, h4]; decide
theorem lay_cards : ∀ cs : List PyData, (∀ d ∈ cs, d.canLay0 = true ∧ d.depth ≤ 2) → PyData.canLayAll0 cs = true ∧ PyData.depthAll cs ≤ 2
  | [], _ => ⟨rfl, Nat.zero_le _⟩
  | d :: cs, h => by
    obtain ⟨h1, h2⟩ := lay_cards cs fun x hx => h x (List.mem_cons_of_mem _ hx)
    obtain ⟨h3, h4⟩ := h d (List.mem_cons_self ..)
    constructor
    · show (d.canLay0 && PyData.canLayAll0 cs) = true
      rw [h1, h3]; rfl
    · show max d.depth (PyData.depthAll cs) ≤ 2
      omega
section
variable {K : PySem.W.Frag}
theorem dpAll_at {H : Hp} : ∀ {xs : List V} {ds : List PyData}, xs.length = ds.length → (∀ (k : Nat) (x : V) (d : PyData), xs[k]? = some x → ds[k]? = some d → Dp K H x d) → DpAll K H xs ds
  | [], [], _, _ => .nil
  | [], _ :: _, h, _ => by simp at h
  | _ :: _, [], h, _ => by simp at h
  | x :: xs, d :: ds, h, f => .cons (f 0 x d rfl rfl) (dpAll_at (by simpa using h) fun k y e h1 h2 => f (k + 1) y e (by simpa using h1) (by simpa using h2))
theorem dp_told {H : Hp} (L : List Nat) : ∀ (w : List Nat) (is : List Int), DpAll K H (toldL L w is) ((toldL L w is).map vP) := by
  intro w is
  refine dpAll_at (by rw [List.length_map]) fun k x d h1 h2 => ?_
  rw [List.getElem?_map, h1] at h2
  obtain rfl := (Option.some.inj h2).symm
  unfold toldL at h1
  rw [List.getElem?_map] at h1
  cases e : (w.zip is)[k]? with
  | none => rw [e] at h1; cases h1
  | some p =>
    rw [e] at h1
    obtain rfl := (Option.some.inj h1).symm
    by_cases g : p.1 ∈ L
    · show Dp K H (if p.1 ∈ L then V.int p.2 else .non) (vP (if p.1 ∈ L then V.int p.2 else .non))
      rw [if_pos g]; exact .int _
    · show Dp K H (if p.1 ∈ L then V.int p.2 else .non) (vP (if p.1 ∈ L then V.int p.2 else .non))
      rw [if_neg g]; exact .non
theorem dp_card {H : Hp} {h : Addr} {x : V} {L : List Nat} {l : Lt} {row is : List Int} (c : CdOne H h x L l row is) : Dp K H x (cardP L l row is) := by
  obtain ⟨t, w, u, rfl, e1, r, e2⟩ := c
  obtain ⟨aw, rfl, ew, _⟩ := nD_inv r
  have dw : Dp K H (.ref aw) (.tuple (l.1.map fun j => .int (j : Nat))) := .tup (SqT.of ew) (dpAll_at (by rw [List.length_map, List.length_map]) fun k x d h1 h2 => by
    rw [List.getElem?_map] at h1 h2
    cases e : l.1[k]? with
    | none => rw [e] at h1; cases h1
    | some j =>
      rw [e] at h1 h2
      obtain rfl := (Option.some.inj h1).symm
      obtain rfl := (Option.some.inj h2).symm
      exact .int _)
  exact .tup (SqT.of e1) (.cons dw (.cons (.int _) (.cons (.int _) (.cons (.tup (SqT.of e2) (dp_told L l.1 is)) .nil))))
end
def cdsP (L : List Nat) (ls : List Lt) (rows its : List (List Int)) : List PyData := (List.range ls.length).map fun k => cardP L (ls.getD k ([], 0)) (rows.getD k []) (its.getD k [])
theorem ne_cd {X : Cx} {H : Hp} {h : Addr} {v w : V} {L : List Nat} {ls : List Lt} {rows its : List (List Int)} {Q : VK} (hr : rows.length = ls.length) (hi : its.length = ls.length) (c : CdAt H h v L ls rows its) (d : CdAt H h w L ls rows its) (k : Q (.bl false) H) : rNeD X.K v w H Q := by
  have key : ∀ {v : V}, CdAt H h v L ls rows its → Dp X.K H v (.tuple (cdsP L ls rows its)) := fun c => by
    obtain ⟨q, xs, rfl, e, l1, f⟩ := c
    refine .tup (SqT.of e) (dpAll_at (by unfold cdsP; rw [List.length_map, List.length_range]; exact l1) fun k x d h1 h2 => ?_)
    have hk : k < ls.length := by rw [← l1]; exact (List.getElem?_eq_some_iff.mp h1).1
    obtain ⟨x', g1, g2⟩ := f k _ _ _ (List.getElem?_eq_getElem hk) (List.getElem?_eq_getElem (by omega)) (List.getElem?_eq_getElem (by omega))
    rw [h1] at g1
    obtain rfl := Option.some.inj g1
    unfold cdsP at h2
    rw [List.getElem?_map, List.getElem?_range hk] at h2
    obtain rfl := (Option.some.inj h2).symm
    have q1 : ls.getD k ([], 0) = ls[k] := by rw [List.getD_eq_getElem?_getD, List.getElem?_eq_getElem hk]; rfl
    have q2 : rows.getD k [] = rows[k]'(by omega) := by rw [List.getD_eq_getElem?_getD, List.getElem?_eq_getElem (show k < rows.length by omega)]; rfl
    have q3 : its.getD k [] = its[k]'(by omega) := by rw [List.getD_eq_getElem?_getD, List.getElem?_eq_getElem (show k < its.length by omega)]; rfl
    show Dp X.K H x (cardP L (ls.getD k ([], 0)) (rows.getD k []) (its.getD k []))
    rw [q1, q2, q3]
    exact dp_card g2
  have lay := lay_cards (cdsP L ls rows its) fun d hd => by
    unfold cdsP at hd
    obtain ⟨k, _, rfl⟩ := List.mem_map.mp hd
    exact lay_card _ _ _ _
  have sh : SeqAt.shaped (.tuple (cdsP L ls rows its)) = true := by
    show (PyData.canLayAll0 (cdsP L ls rows its) && decide (PyData.depthAll (cdsP L ls rows its) + 1 ≤ 64)) = true
    rw [lay.1, decide_eq_true (by have := lay.2; omega)]; rfl
  refine ⟨_, _, key c, key d, sh, sh, ?_⟩
  rw [PySem.SeqAt.eqv_refl _ (show PyData.canLay0 (.tuple (cdsP L ls rows its)) = true from lay.1)]
  exact k
theorem newSame {H : Hp} {x dx C : Addr} (hx : H x = none) (hdx : H dx = none) : Same H (upd (upd H dx (.own x)) x (.ins C dx [])) := fun b o q => by
  rw [upd_ne (ne_of_none q hx), upd_ne (ne_of_none q hdx)]; exact q
theorem dayFacts {C CW : Addr} {H H7 : Hp} {h pw x dx : Addr} {v2 v3 : V} {n : Int} {rds : List D} {rm tm : List Int} {ls : List Lt} {rows : List (List Int)} (W : WebX CW H h pw n rds rm tm) (r2 : Rp H h v2 (ltsD ls)) (r3 : Rp H h v3 (rowsD rows)) (hx : H x = none) (hdx : H dx = none)
    (b7 : But x (upd (upd H dx (.own x)) x (.ins C dx [])) H7) (e7 : H7 x = some (.ins C dx (dayF (.ref pw) v2 v3))) : Same H H7 ∧ DayX C CW H7 h x n rds rm tm (ltsD ls) (rowsD rows) := by
  have s7 : Same H H7 := fun b o q => b7 _ _ (newSame hx hdx _ _ q) (ne_of_none q hx)
  have l1 : (dayF (.ref pw) v2 v3).length < 10 := putF_lt (n := 9) (putF_lt (n := 8) (putF_lt (n := 7) (by decide)))
  exact ⟨s7, ⟨dx, _, pw, v2, v3, e7, by omega, dF_w _ _ _, dF_l _ _ _, dF_h _ _ _, W.same s7, r2.same s7, r3.same s7⟩, isIn_lts ls, isIn_rows rows⟩
theorem webDue {n : Int} {rds : List D} {rm tm : List Int} (p : PartsOk n rds rm tm) : due (.int n) (.tup rds) (.tup (rm.map Hc.D.int)) (.tup (tm.map Hc.D.int)) = none := by
  have cnt : ∀ ns : List Int, ns.length = rds.length → (∀ x ∈ ns, 1 ≤ x ∧ x ≤ 3) → areBtw (rds.length : Nat) 1 3 (.tup (ns.map Hc.D.int)) = true := fun ns h1 h2 => by
    rw [areBtw_tup, List.length_map, decide_eq_true (show ((ns.length : Nat) : Int) = (rds.length : Nat) by omega), Bool.true_and, List.all_eq_true]
    intro d hd
    obtain ⟨x, hx, rfl⟩ := List.mem_map.mp hd
    exact btw_of (h2 x hx).1 (h2 x hx).2
  have q1 : ¬ isBtw 2 12 (.int n) = false := by rw [btw_of p.n0 p.n1]; decide
  have q2 : ¬ areRoads (num (.int n)) (.tup rds) = false := by
    show ¬ areRoads n (.tup rds) = false
    rw [areRoads_tup, decide_eq_true p.l1, decide_eq_true p.l2, p.all]; decide
  have q3 : ¬ areBtw (dlen (.tup rds)) 1 3 (.tup (rm.map Hc.D.int)) = false := by
    show ¬ areBtw (rds.length : Nat) 1 3 (.tup (rm.map Hc.D.int)) = false
    rw [cnt rm p.lr p.br]; decide
  have q4 : ¬ areBtw (dlen (.tup rds)) 1 3 (.tup (tm.map Hc.D.int)) = false := by
    show ¬ areBtw (rds.length : Nat) 1 3 (.tup (tm.map Hc.D.int)) = false
    rw [cnt tm p.lt p.bt]; decide
  exact (if_neg q1).trans ((if_neg q2).trans ((if_neg q3).trans (if_neg q4)))
theorem CdAt.nl {H H' : Hp} {h : Addr} {v : V} {L : List Nat} {ls : List Lt} {rows its : List (List Int)} (c : CdAt H h v L ls rows its) (s : NL H H') : CdAt H' h v L ls rows its := by
  obtain ⟨q, xs, e, e1, l1, f⟩ := c
  refine ⟨q, xs, e, s _ _ e1 (fun _ z => by cases z), l1, fun k l row is a b d => ?_⟩
  obtain ⟨x, g1, t, w, u, e2, e3, r, e4⟩ := f k l row is a b d
  exact ⟨x, g1, t, w, u, e2, s _ _ e3 (fun _ z => by cases z), r.nl s (noL_nD l.1), s _ _ e4 (fun _ z => by cases z)⟩
theorem early_sh {tm : List Int} {l : Lt} {r : List Int} (b : Int) (hr : r.length = l.1.length) (e : EarlyOk tm l r) : EarlyOk tm (l.1, l.2 + b) (r.map fun x => x + b) := by
  intro j hj
  rw [List.length_map] at hj
  have := e j hj
  unfold nextAt at this ⊢
  have lt : (r.take j).length = j := by rw [List.length_take]; omega
  have lt2 : ((r.map fun x => x + b).take j).length = j := by rw [List.length_take, List.length_map]; omega
  have gj : (r.map fun x => x + b).getD j 0 = r.getD j 0 + b := by
    rw [List.getD_eq_getElem?_getD, List.getElem?_map, List.getD_eq_getElem?_getD, List.getElem?_eq_getElem hj]; rfl
  rw [lt] at this
  rw [lt2, gj]
  by_cases z : j = 0
  · rw [if_pos z] at this ⊢
    show l.2 + b ≤ _
    omega
  · rw [if_neg z] at this ⊢
    have g1 : ((r.map fun x => x + b).take j).getD (j - 1) 0 = (r.take j).getD (j - 1) 0 + b := by
      rw [List.getD_eq_getElem?_getD, List.getElem?_take, if_pos (by omega), List.getElem?_map, List.getD_eq_getElem?_getD, List.getElem?_take, if_pos (by omega), List.getElem?_eq_getElem (show j - 1 < r.length by omega)]; rfl
    rw [g1]
    show _ + b + tm.getD (l.1.getD (j - 1) 0) 0 ≤ _
    omega
theorem HrOne.ln {tm : List Int} {ls : List Lt} {rows : List (List Int)} (x : HrOne tm ls rows) : LenOk ls rows := ⟨x.len, fun k l r e1 e2 => (x.one k l r e1 e2).1⟩
theorem HrOne.sh {tm : List Int} {ls : List Lt} {rows : List (List Int)} (b : Int) (x : HrOne tm ls rows) : HrOne tm (shL b ls) (shR b rows) := by
  refine ⟨by unfold shL shR; rw [List.length_map, List.length_map]; exact x.len, fun k l r e1 e2 => ?_⟩
  unfold shL at e1
  unfold shR at e2
  rw [List.getElem?_map] at e1 e2
  cases g1 : ls[k]? with
  | none => rw [g1] at e1; cases e1
  | some l0 =>
  cases g2 : rows[k]? with
  | none => rw [g2] at e2; cases e2
  | some r0 =>
  rw [g1] at e1
  rw [g2] at e2
  cases e1
  cases e2
  obtain ⟨h1, h2⟩ := x.one k _ _ g1 g2
  exact ⟨by rw [List.length_map]; exact h1, early_sh b h1 h2⟩
theorem HrOne.app {tm : List Int} {ls ls' : List Lt} {rows rows' : List (List Int)} (x : HrOne tm ls rows) (y : HrOne tm ls' rows') : HrOne tm (ls ++ ls') (rows ++ rows') := by
  have hx := x.len
  refine ⟨by rw [List.length_append, List.length_append, x.len, y.len], fun k l r e1 e2 => ?_⟩
  by_cases hk : k < ls.length
  · rw [List.getElem?_append_left hk] at e1
    rw [List.getElem?_append_left (by omega)] at e2
    exact x.one k l r e1 e2
  · rw [List.getElem?_append_right (by omega)] at e1
    rw [List.getElem?_append_right (by omega), hx] at e2
    exact y.one _ l r e1 e2
theorem HrOne.ok {rds : List D} {rm tm : List Int} {ls : List Lt} {rows : List (List Int)} (x : HrOne tm ls rows) (o : LsOk rds ls) (l60 : ls.length ≤ 60) (f : fullB rm ls rows = false) : DayOk rds rm tm ls rows :=
  ⟨o, l60, x.ln, early_ok x.ln fun k l r e1 e2 => (x.one k l r e1 e2).2, f⟩
theorem its_of {so : Str} (h : so = "hours" ∨ so = "turns") (ls : List Lt) (rows : List (List Int)) : ∃ its, SortIts so ls rows its := by
  rcases h with rfl | rfl
  · exact ⟨_, .inl ⟨rfl, rfl⟩⟩
  · exact ⟨_, .inr ⟨rfl, rfl⟩⟩
theorem tAll_len {rd : Int} {ls : List Lt} {rows : List (List Int)} (h8 : ∀ l ∈ ls, l.1.length ≤ 8) : ∀ m, m ≤ ls.length → (tAll rd ls rows m).length ≤ 8 * m
  | 0, _ => Nat.le_refl _
  | m + 1, hm => by
    have ih := tAll_len (rd := rd) (rows := rows) h8 m (by omega)
    unfold tAll at ih ⊢
    rw [List.range_succ, List.flatMap_append, List.length_append, List.flatMap_cons, List.flatMap_nil, List.append_nil]
    have l1 := tLt_len rd m (ls.getD m ([], 0)) (rows.getD m []) (ls.getD m ([], 0)).1.length
    have l2 : (ls.getD m ([], 0)).1.length ≤ 8 := by
      rw [List.getD_eq_getElem?_getD, List.getElem?_eq_getElem (show m < ls.length by omega)]
      exact h8 _ (List.getElem_mem _)
    omega
theorem roadT_len {ls : List Lt} {rows : List (List Int)} (h8 : ∀ l ∈ ls, l.1.length ≤ 8) (l60 : ls.length ≤ 60) (j : Nat) : (roadT ls rows j).length ≤ 1000 := by
  rw [(roadT_perm j).length_eq]
  have := tAll_len (rd := ((j : Nat) : Int)) (rows := rows) h8 ls.length (Nat.le_refl _)
  omega
/-- cards without what is told -/
def hdOf (l : Lt) (row : List Int) : D := .tup [nD l.1, .int l.2, .int (lastOf row)]
def hdD (ls : List Lt) (rows : List (List Int)) : List D := (List.range ls.length).map fun k => hdOf (ls.getD k ([], 0)) (rows.getD k [])
theorem isIn_hd (ls : List Lt) (rows : List (List Int)) : (hdD ls rows).all (isIn 3) = true := by
  rw [List.all_eq_true]
  intro d hd
  unfold hdD at hd
  obtain ⟨k, _, rfl⟩ := List.mem_map.mp hd
  show (isIn 2 (nD (ls.getD k ([], 0)).1) && (isIn 2 (.int _) && (isIn 2 (.int _) && true))) = true
  have h : isIn 2 (nD (ls.getD k ([], 0)).1) = true := by
    show ((ls.getD k ([], 0)).1.map fun j => D.int (j : Nat)).all (isIn 1) = true
    rw [List.all_eq_true]
    intro d hd
    obtain ⟨j, _, rfl⟩ := List.mem_map.mp hd
    rfl
  rw [h]; rfl
theorem hdD_at {ls : List Lt} {rows : List (List Int)} {i : Nat} {l : Lt} {row : List Int} (e1 : ls[i]? = some l) (e2 : rows[i]? = some row) : (hdD ls rows)[i]? = some (hdOf l row) := by
  have hi : i < ls.length := (List.getElem?_eq_some_iff.mp e1).1
  unfold hdD
  rw [List.getElem?_map, List.getElem?_range hi]
  show some (hdOf (ls.getD i ([], 0)) (rows.getD i [])) = _
  rw [getD_of e1, getD_of e2]
def Hds (H1 : Hp) (h D : Addr) (ls : List Lt) (rows : List (List Int)) (i : Nat) (H' : Hp) : Prop := Same H1 H' ∧ ∃ zs, H' D = some (.lst zs) ∧ zs.length = i ∧ RpA H' h zs ((hdD ls rows).take i)
theorem Hds.step {H1 H' H2 : Hp} {h D b : Addr} {ls : List Lt} {rows : List (List Int)} {i : Nat} {l : Lt} {row : List Int} {w : V} (x : Hds H1 h D ls rows i H') (hD : H1 D = none) (l60 : ls.length ≤ 60) (e1 : ls[i]? = some l) (e2 : rows[i]? = some row) (r : Rp H1 h w (nD l.1)) (s : Same H' H2) (e : H2 b = some (.tup [w, .int l.2, .int (lastOf row)])) :
    ∃ acc, H2 D = some (.lst acc) ∧ acc.length < sizeLine ∧ Hds H1 h D ls rows (i + 1) (upd H2 D (.lst (acc ++ [.ref b]))) := by
  obtain ⟨s1, zs, hd, lz, ra⟩ := x
  have hi : i < ls.length := (List.getElem?_eq_some_iff.mp e1).1
  have hd2 := s _ _ hd
  have s2 : Same H1 (upd H2 D (.lst (zs ++ [.ref b]))) := same_put (s1.trans s) hD
  have nb : b ≠ D := fun z => by subst z; rw [e] at hd2; cases hd2
  refine ⟨zs, hd2, line_lt (by omega), s2, _, upd_same, by rw [List.length_append, lz]; rfl, ?_⟩
  rw [take_more (hdD_at e1 e2)]
  refine RpA.app ((ra.same s).nl (NL.upd hd2) ?_) (.cons (.tup (by rw [upd_ne nb]; exact e) (by simp) (.cons (r.same s2) (.cons (.int _) (.cons (.int _) .nil)))) .nil)
  have : isIn 4 (.tup ((hdD ls rows).take i)) = true := by
    show ((hdD ls rows).take i).all (isIn 3) = true
    rw [List.all_eq_true]
    intro d hd
    exact List.all_eq_true.mp (isIn_hd ls rows) d (List.mem_of_mem_take hd)
  exact isIn_noL 4 this
section
variable {P : Program} {w : World} {K : PySem.W.Frag} {mg : Str → Option Value} {base : Heap}
def spMadeX (C : Addr) : Sp := fun vs H Q _ => ∃ (h : Addr) (v : V) (n : Int) (rds : List D) (rm tm : List Int), vs = [v] ∧ WebF H h v n rds rm tm ∧ ∀ p H', Same H H' → WebX C H' h p n rds rm tm → Q (.ref p) H'
theorem ok__law_made (T : Tx K mg) : FnOk P w K mg base CX0 9 T._law_made.f T._law_made.fd ["_law_web_here"] (spMadeX T.Web.C) := by
  refine T._law_made.F.ok sc_law_made (fun vs H Q E h => ?_) (fun cdv A outer s H vs Q E hr h => ?_)
  · obtain ⟨_, _, _, _, _, _, rfl, _⟩ := h
    rfl
  · obtain ⟨h, v, n, rds, rm, tm, rfl, W, k⟩ := h
    refine ⟨_, (pss_one (ps_ret (pe_make T.Web.mk1 (ok_Web___init T) (hr.mono (by decide)) rfl T.Web.g T.Web.b .nil passL (pa_cons (pe_ix ix_tup (pv 0) pe_int (fun _ _ => rfl)) (pa_cons (pe_ix ix_tup (pv 0) pe_int (fun _ _ => rfl)) (pa_cons (pe_ix ix_tup (pv 0) pe_int (fun _ _ => rfl)) (pa_cons (pe_ix ix_tup (pv 0) pe_int (fun _ _ => rfl)) pa_nil))))))), ?_⟩
    exact mkW T rfl W fun p H' s X => k p H' s X
end
end Hc


set_option Elab.async false
set_option linter.all false
set_option pp.maxSteps 600
set_option maxRecDepth 100000
set_option maxHeartbeats 4000000
set_option autoImplicit false
namespace Hc
open PySem L2
/-- a day that is right -/
def Dx (C CW : Addr) (H : Hp) (h : Addr) (n : Int) (rds : List D) (rm tm : List Int) (v : V) : Prop := ∃ (p : Addr) (ls : List Lt) (rows : List (List Int)), v = .ref p ∧ DayX C CW H h p n rds rm tm (ltsD ls) (rowsD rows) ∧ HrOne tm ls rows ∧ DayOk rds rm tm ls rows
theorem Dx.nl {C CW : Addr} {H H' : Hp} {h : Addr} {n : Int} {rds : List D} {rm tm : List Int} {v : V} (x : Dx C CW H h n rds rm tm v) (k : NL H H') : Dx C CW H' h n rds rm tm v := by
  obtain ⟨p, ls, rows, e, O, a, b⟩ := x
  exact ⟨p, ls, rows, e, O.nl k, a, b⟩
theorem Dx.same {C CW : Addr} {H H' : Hp} {h : Addr} {n : Int} {rds : List D} {rm tm : List Int} {v : V} (x : Dx C CW H h n rds rm tm v) (s : Same H H') : Dx C CW H' h n rds rm tm v := x.nl (NL.of s)
section
variable {P : Program} {w : World} {K : PySem.W.Frag} {mg : Str → Option Value} {base : Heap}
def spLaw (K : PySem.W.Frag) : Sp := fun vs H Q _ => ∃ (a : Addr) (ns : List Int), vs = [.ref a] ∧ SqL K H a (ns.map V.int) ∧ ns.length ≤ 63 ∧ ∀ H', Q (.bl true) H'
theorem ok_law (T : Tx K mg) : FnOk P w K mg base CX0 14 T.law.f T.law.fd ["_law_script"] (spLaw K) := by
  refine T.law.F.ok sc_law (fun vs H Q E h => ?_) (fun cdv A outer s H vs Q E hr h => ?_)
  · obtain ⟨a, ns, rfl, _⟩ := h
    rfl
  · obtain ⟨a, ns, rfl, hS, hl, kq⟩ := h
    refine ⟨_, (pss_cons (ps_set (i := 1) sc_law.nd rfl (Or.inl rfl) (pe_call (ok__law_hand T) (hr.mono (by decide)) rfl T._law_hand.g T._law_hand.F.kp T._law_hand.b .nil pass0 (pa_cons (pv 0) pa_nil)))
      (pss_cons (ps_asg (pe_call (ok__law_day T) (hr.mono (by decide)) rfl T._law_day.g T._law_day.F.kp T._law_day.b .nil pass0 (pa_cons (pv 1) (pa_cons pe_int (pa_cons pe_int (pa_cons (pe_call (ok__law_draw T) (hr.mono (by decide)) rfl T._law_draw.g T._law_draw.F.kp T._law_draw.b .nil pass0 (pa_cons (pv 1) (pa_cons pe_int pa_nil))) (pa_cons pe_int pa_nil)))))) (pg_tup (by rfl) (pgs_cons (pg_name (i := 2) sc_law.nd rfl (Or.inl rfl)) (pgs_cons (pg_name (i := 3) sc_law.nd rfl (Or.inl rfl)) (pgs_cons (pg_name (i := 4) sc_law.nd rfl (Or.inl rfl)) pgs_nil)))))
      (pss_cons (ps_set (i := 5) sc_law.nd rfl (Or.inl rfl) (pe_call (ok__law_made T) (hr.mono (by decide)) rfl T._law_made.g T._law_made.F.kp T._law_made.b .nil pass0 (pa_cons (pv 2) pa_nil)))
      (pss_cons (ps_set (i := 6) sc_law.nd rfl (Or.inl rfl) (pe_make T.Day.mk1 (ok_Day___init T) (hr.mono (by decide)) rfl T.Day.g T.Day.b .nil passL (pa_cons (pv 5) (pa_cons (pv 3) (pa_cons (pv 4) pa_nil)))))
      (C8.pss_cut (ps_set (i := 7) sc_law.nd rfl (Or.inl rfl) (pe_call (ok_laid_over T) (hr.mono (by decide)) rfl T.laid_over.g T.laid_over.F.kp T.laid_over.b .nil passL (pa_cons (pv 6) (pa_cons (pe_call (ok_shifted T) (hr.mono (by decide)) rfl T.shifted.g T.shifted.F.kp T.shifted.b .nil passL (pa_cons (pv 6) (pa_cons (pe_call (ok__law_draw T) (hr.mono (by decide)) rfl T._law_draw.g T._law_draw.F.kp T._law_draw.b .nil pass0 (pa_cons (pv 1) (pa_cons pe_int pa_nil))) pa_nil))) pa_nil))))
      (pss_cons (ps_set (i := 8) sc_law.nd rfl (Or.inl rfl) (pe_tupRg rfl (by rfl) T.n_tuple (prg_1 (by rfl) T.n_range (pe_callB call_len_seq (by rfl) T.n_len (by decide +kernel) (pa_cons (pe_ix ix_tup (pv 2) pe_int (fun _ _ => rfl)) pa_nil)))))
      (pss_cons (ps_for PassesOwn.never rfl (pi_list (pe_op op_cat (pe_lst (pa_cons (pv 6) pa_nil)) (pe_lc (own := [("_law_other", 14)]) (g := (gName 14))  rfl sc_law.nd (pi_list (pe_lst (pa_cons (pv 7) pa_nil))) (blkOk_by (own := [("_law_other", 14)]) (N := ["_law_script", "_law_hand_here", "_law_web_here", "_law_letters_here", "_law_hours_here", "_law_made_here", "_law_day_here", "_law_both", "_law_every", "_law_one", "_law_first", "_law_second", "_law_road", "_law_lot_here", "_law_other", "_law_card"]) (sc := defScope s_law) (by decide +kernel)) (fun _ _ _ _ _ => (pg_name (i := 14) sc_law.nd rfl (Or.inl rfl))) (fun _ _ _ _ _ => (pts_one (by exact (pt_cmpR op_notN (pv 14) pe_non (nomark _))))) (fun _ _ _ _ _ => (by exact (pv 14)))))) (pg_name (i := 9) sc_law.nd rfl (Or.inl rfl))
      (pss_cons (ps_set (i := 10) sc_law.nd rfl (Or.inl rfl) (pe_call (ok_cards T) (hr.mono (by decide)) rfl T.cards.g T.cards.F.kp T.cards.b .nil passL (pa_cons (pv 9) (pa_cons (pv 8) (pa_cons pe_str pa_nil)))))
      (pss_cons (ps_set (i := 11) sc_law.nd rfl (Or.inl rfl) (pe_call (ok_cards T) (hr.mono (by decide)) rfl T.cards.g T.cards.F.kp T.cards.b .nil passL (pa_cons (pv 9) (pa_cons (pv 8) (pa_cons pe_str pa_nil)))))
      (pss_cons (ps_if (pt_cmpR (op_neD hr.units) (pe_lc (own := [("_law_card", 15)]) (g := (gName 15)) (tt := tYes) (te := (tSl (rSlA K) (tVar 15) tNoPart (tPart (tC (.int 3))))) rfl sc_law.nd (pi_tup (pv 10)) (blkOk_by (own := [("_law_card", 15)]) (N := ["_law_script", "_law_hand_here", "_law_web_here", "_law_letters_here", "_law_hours_here", "_law_made_here", "_law_day_here", "_law_both", "_law_every", "_law_one", "_law_first", "_law_second", "_law_road", "_law_lot_here", "_law_other", "_law_card"]) (sc := defScope s_law) (by decide +kernel)) (fun _ _ _ _ _ => (pg_name (i := 15) sc_law.nd rfl (Or.inl rfl))) (fun _ _ _ _ _ => pts_nil) (fun _ _ _ _ _ => (by exact (pe_slice sl_tupA (pv 15) po_none (po_some pe_int))))) (pe_lc (own := [("_law_card", 15)]) (g := (gName 15)) (tt := tYes) (te := (tSl (rSlA K) (tVar 15) tNoPart (tPart (tC (.int 3))))) rfl sc_law.nd (pi_tup (pv 11)) (blkOk_by (own := [("_law_card", 15)]) (N := ["_law_script", "_law_hand_here", "_law_web_here", "_law_letters_here", "_law_hours_here", "_law_made_here", "_law_day_here", "_law_both", "_law_every", "_law_one", "_law_first", "_law_second", "_law_road", "_law_lot_here", "_law_other", "_law_card"]) (sc := defScope s_law) (by decide +kernel)) (fun _ _ _ _ _ => (pg_name (i := 15) sc_law.nd rfl (Or.inl rfl))) (fun _ _ _ _ _ => pts_nil) (fun _ _ _ _ _ => (by exact (pe_slice sl_tupA (pv 15) po_none (po_some pe_int))))) (nomark _))
      (pss_one (ps_ret pe_bl))
      pss_nil)
      (pss_cons (ps_for PassesOwn.never rfl (pi_tup (pv 8)) (pg_name (i := 12) sc_law.nd rfl (Or.inl rfl))
      (pss_one (ps_if (pt_not (pt_val (pe_call (ok__law_road_fits T) (hr.mono (by decide)) rfl T._law_road_fits.g T._law_road_fits.F.kp T._law_road_fits.b .nil pass0 (pa_cons (pe_ix ix_tup (pe_ix ix_tup (pv 2) pe_int (fun _ _ => rfl)) (pv 12) (fun _ _ => rfl)) (pa_cons (pe_call (ok__law_passings T) (hr.mono (by decide)) rfl T._law_passings.g T._law_passings.F.kp T._law_passings.b .nil pass0 (pa_cons (pv 10) (pa_cons (pv 11) (pa_cons (pv 12) pa_nil)))) pa_nil)))))
      (pss_one (ps_ret pe_bl))
      pss_nil)))
      (pss_cons (ps_set (i := 13) sc_law.nd rfl (Or.inl rfl) (pe_call (ok__law_lot T) (hr.mono (by decide)) rfl T._law_lot.g T._law_lot.F.kp T._law_lot.b .nil pass0 (pa_cons (pv 1) (pa_cons (pv 2) pa_nil))))
      (pss_cons (ps_if (PW.pt (pw_or (pt_cmpR (op_neD hr.units) (pe_call (ok_cards T) (hr.mono (by decide)) rfl T.cards.g T.cards.F.kp T.cards.b .nil passL (pa_cons (pv 9) (pa_cons (pv 13) (pa_cons pe_str pa_nil)))) (pe_call (ok__law_less T) (hr.mono (by decide)) rfl T._law_less.g T._law_less.F.kp T._law_less.b .nil pass0 (pa_cons (pv 10) (pa_cons (pv 13) pa_nil))) (nomark _)) (pw_or1 (pt_cmpR (op_neD hr.units) (pe_call (ok_cards T) (hr.mono (by decide)) rfl T.cards.g T.cards.F.kp T.cards.b .nil passL (pa_cons (pv 9) (pa_cons (pv 13) (pa_cons pe_str pa_nil)))) (pe_call (ok__law_less T) (hr.mono (by decide)) rfl T._law_less.g T._law_less.F.kp T._law_less.b .nil pass0 (pa_cons (pv 11) (pa_cons (pv 13) pa_nil))) (nomark _)))))
      (pss_one (ps_ret pe_bl))
      pss_nil)
      (pss_one (ps_if (PW.pt (pw_or (pt_not (pt_val (pe_call (ok_are_cards T) (hr.mono (by decide)) rfl T.are_cards.g T.are_cards.F.kp T.are_cards.b .nil passL (pa_cons (pv 5) (pa_cons (pv 13) (pa_cons pe_str (pa_cons (pe_call (ok_cards T) (hr.mono (by decide)) rfl T.cards.g T.cards.F.kp T.cards.b .nil passL (pa_cons (pv 9) (pa_cons (pv 13) (pa_cons pe_str pa_nil)))) pa_nil))))))) (pw_or1 (pt_not (pt_val (pe_call (ok_are_cards T) (hr.mono (by decide)) rfl T.are_cards.g T.are_cards.F.kp T.are_cards.b .nil passL (pa_cons (pv 5) (pa_cons (pv 13) (pa_cons pe_str (pa_cons (pe_call (ok_cards T) (hr.mono (by decide)) rfl T.cards.g T.cards.F.kp T.cards.b .nil passL (pa_cons (pv 9) (pa_cons (pv 13) (pa_cons pe_str pa_nil)))) pa_nil))))))))))
      (pss_one (ps_ret pe_bl))
      pss_nil)))))))))
      (pss_one (ps_ret pe_bl))))))))), ?_⟩
    refine ⟨_, rfl, a, ns, rfl, hS, hl, fun h c H0 s0 p0 => ?_⟩
    clear hS hl s0
    refine ⟨_, rfl, _, rfl, h, c, 11, rfl, p0, by decide, by decide, fun y H1 y0 y1 p1 b1 => ?_⟩
    obtain ⟨m, rfl⟩ := Int.eq_ofNat_of_zero_le y0
    refine ⟨h, c, 4, 5, m, 6, rfl, p1, by omega, by omega, by omega, by omega, by omega, by omega, by omega, fun pd v vl vh n rds rm tm ls rows H3 p3 b3 e3 W3 r3 rh3 lm lo l5 ok n4 => ?_⟩
    have l60 : ls.length ≤ 10 := by omega
    refine ⟨pd, _, rfl, SqT.of e3, rfl, _, _, rfl, _, _, rfl, _, _, rfl, rfl, ?_⟩
    have dk : DayOk rds rm tm ls rows := (HrOne.mk ok.len ok.one).ok lo (by omega) (full_ok (fun l hl j hj => by rw [W3.lr]; exact (lo.h l hl).2.2.1 j hj) ok.full)
    refine ⟨_, rfl, h, v, n, rds, rm, tm, rfl, W3, fun pm H4 s4 X4 => ?_⟩
    have W4 := W3.nl (NL.of s4)
    have r4 := r3.same s4
    have rh4 := rh3.same s4
    have p4 := p3.mono s4
    clear W3 r3 rh3 e3 b3 p3 s4 p1 b1 p0
    refine ⟨_, rfl, _, rfl, _, rfl, fun x dx hx hdx nx => ?_⟩
    refine ⟨h, x, dx, pm, vl, vh, ltsD ls, rowsD rows, n, rds, rm, tm, rfl, upd_same, X4.w.same (newSame hx hdx), r4.same (newSame hx hdx), rh4.same (newSame hx hdx), fun _ _ _ _ _ H5 b5 e5 => ⟨rfl, ?_⟩, fun part hd => absurd hd dk.not⟩
    obtain ⟨s5, O5⟩ := dayFacts X4 r4 rh4 hx hdx b5 e5
    clear hx hdx nx b5 e5
    generalize x = p5 at O5 ⊢
    have W5 := W4.nl (NL.of s5)
    have X5 := X4.same s5
    have p5' := p4.mono s5
    clear W4 r4 rh4 p4 X4 s5
    refine ⟨fun σ' H' => ∃ (v7 : V), σ' = [some (.ref a), some (.ref h), some v, some vl, some vh, some (.ref pm), some (.ref p5), some v7, none, none, none, none, none, none, none, none] ∧ HandAt H' h c ∧ WebF H' h v n rds rm tm ∧ WebX T.Web.C H' h pm n rds rm tm ∧ Dx T.Day.C T.Web.C H' h n rds rm tm (.ref p5) ∧ (v7 = .non ∨ Dx T.Day.C T.Web.C H' h n rds rm tm v7), ?_, ?_⟩
    · refine ⟨_, rfl, _, rfl, _, rfl, h, c, 4, rfl, p5', by decide, by decide, fun b H6 b0 b4 p6 bu6 => ?_⟩
      have W6 := W5.nl (bu6.nl p5'.lst)
      have X6 := X5.nl (bu6.nl p5'.lst)
      have O6 := O5.nl (bu6.nl p5'.lst)
      have ll := ok.len
      refine ⟨h, p5, .int b, .int b, n, rds, rm, tm, ls, rows, rfl, .int _, O6, by omega, by omega, fun r hr => (by obtain ⟨k, hk⟩ := List.mem_iff_getElem?.mp hr; have hk2 := (List.getElem?_eq_some_iff.mp hk).1; have := (ok.one k _ _ (List.getElem?_eq_getElem (show k < ls.length by omega)) hk).1; have := (l5 _ (List.getElem_mem (show k < ls.length by omega))).1; omega), fun z => (by cases z), fun b6 hb6 => ⟨fun ⟨l, hl, hz⟩ => (by injection hb6 with hb6; have := (lo.h l hl).2.2.2.2.1; omega), fun _ p8 H7 s7 O7 => ?_⟩⟩
      injection hb6 with hb6
      subst hb6
      have O6' := O6.same s7
      have W7 := W6.nl (NL.of s7)
      have X7 := X6.same s7
      have p7 := p6.mono s7
      clear W5 X5 O5 W6 X6 O6 p5' p6 s7 bu6
      have HO : HrOne tm ls rows := ⟨ok.len, ok.one⟩
      have lo2 : LsOk rds (shL b ls) := lo.sh b0 fun l hl => by have := (l5 l hl).2; omega
      have lsh : (shL b ls).length = ls.length := by unfold shL; rw [List.length_map]
      refine ⟨h, p5, p8, n, n, rds, rds, rm, tm, rm, tm, ls, shL b ls, rows, shR b rows, rfl, O6', O7, fun z => absurd ⟨rfl, rfl, rfl, rfl⟩ z, fun _ => ⟨lo.app lo2, by rw [List.length_append]; omega, (HO.app (HO.sh b)).ln, fun fb H8 s8 => ?_, fun fb p9 H8 s8 O8 => ?_⟩⟩
      · exact ⟨_, rfl, p7.mono s8, W7.nl (NL.of s8), X7.same s8, ⟨p5, ls, rows, rfl, O6'.same s8, HO, dk⟩, .inl rfl⟩
      · exact ⟨_, rfl, p7.mono s8, W7.nl (NL.of s8), X7.same s8, ⟨p5, ls, rows, rfl, O6'.same s8, HO, dk⟩, .inr ⟨p9, _, _, rfl, O8, HO.app (HO.sh b), (HO.app (HO.sh b)).ok (lo.app lo2) (by rw [List.length_append]; omega) fb⟩⟩
    rintro σ' H8 ⟨v7, rfl, p8, W8, X8, D8, D7⟩
    clear X5 O5 W5 p5' dk l5 lm lo ok
    obtain ⟨pw2, xw, hv, ew, _, ra⟩ := tup_inv W8.r
    cases ra with
    | cons r1 ra =>
    cases ra with
    | cons r2 ra =>
    cases ra with
    | cons r3 ra =>
    obtain ⟨pr, xr, rfl, er, _, rr⟩ := tup_inv r2
    have lx := rr.len
    have m1 := W8.l1
    have m2 := W8.l2
    refine ⟨_, rfl, pw2, _, 1, _, hv, rfl, SqT.of ew, atI_nat (j := 1) rfl, pr, _, rfl, .inr (SqT.of er), ?_⟩
    rw [lx]
    refine ⟨_, rfl, RgOk.of_le (by decide) (by omega) (by decide) (by omega), fun q3 hq3 => ?_⟩
    have erg : rgV 0 ((rds.length : Nat) : Int) = (List.range rds.length).map fun j => V.int (j : Nat) := by
      unfold rgV
      rw [show ((((rds.length : Nat) : Int) - 0).toNat) = rds.length by omega]
      exact List.map_congr_left fun j _ => by rw [Int.zero_add]
    rw [erg]
    clear lx rr er r1 r2 r3 ra ew hv erg
    obtain ⟨s9, e9, n9, _, p9⟩ := new_facts (o := .tup ((List.range rds.length).map fun j => V.int (j : Nat))) p8 hq3 rfl
    generalize upd H8 q3 (.tup ((List.range rds.length).map fun j => V.int (j : Nat))) = H9 at s9 e9 p9 ⊢
    have R9 : Rp H9 h (.ref q3) (nD (List.range rds.length)) := nD_mk e9 (by rw [List.length_range]; omega)
    have W9 := W8.nl (NL.of s9)
    have X9 := X8.same s9
    have A9 := D8.same s9
    have B9 : v7 = .non ∨ Dx T.Day.C T.Web.C H9 h n rds rm tm v7 := D7.imp id fun z => z.same s9
    clear W8 X8 D8 D7 p8 s9 hq3
    refine ⟨_, rfl, by show 1 ≤ sizeLine; decide, fun A hA => ?_⟩
    have s10 := same_upd (o := .lst [.ref p5]) hA
    have e10 : (upd H9 A (.lst [.ref p5])) A = some (.lst [.ref p5]) := upd_same
    generalize upd H9 A (.lst [.ref p5]) = H10 at s10 e10 ⊢
    refine ⟨_, rfl, by show 1 ≤ sizeLine; decide, fun B hB => ?_⟩
    have s11 := same_upd (o := .lst [v7]) hB
    have e11 : (upd H10 B (.lst [v7])) B = some (.lst [v7]) := upd_same
    generalize upd H10 B (.lst [v7]) = H11 at s11 e11 ⊢
    refine ⟨B, rfl, ⟨_, SqL.of e11⟩, fun D hD => ?_⟩
    refine lc_list (K := K) (a := B) (xs := [v7]) (fun i H' => Same H11 H' ∧ ∃ L, H' D = some (.lst L) ∧ L.length ≤ i ∧ ∀ x ∈ L, x = v7 ∧ v7 ≠ .non) ⟨same_upd hD, [], upd_same, Nat.le_refl _, fun _ z => nomatch z⟩ (fun i H' _ ⟨s, _⟩ => SqL.of (s _ _ e11)) ?_ ?_
    · rintro i x H' hx ⟨s, L, hd, hl, hL⟩
      have i0 : i < 1 := (List.getElem?_eq_some_iff.mp hx).1
      have ex : x = v7 := by
        cases i with
        | zero => exact (Option.some.inj hx).symm
        | succ i => simp at hx
      subst ex
      rcases B9 with rfl | ⟨pp, ls2, rows2, rfl, O2, _⟩
      · refine ⟨rfl, _, rfl, rfl, false, rfl, s, L, hd, by omega, hL⟩
      · refine ⟨rfl, _, rfl, rfl, true, rfl, _, rfl, _, hd, line_lt (by omega), same_put s hD, _, upd_same, ?_, fun x hx => ?_⟩
        · rw [List.length_append]; show L.length + 1 ≤ i + 1; omega
        · rcases List.mem_append.mp hx with hx | hx
          · exact hL x hx
          · rw [List.mem_singleton] at hx
            exact ⟨hx, fun z => by cases z⟩
    rintro H12 ⟨s12, L, hd, hl, hL⟩
    have hl : L.length ≤ 1 := hl
    have s912 := s10.trans (s11.trans s12)
    refine ⟨A, D, _, _, rfl, rfl, s12 _ _ (s11 _ _ e10), hd, line_le (by show 1 + L.length ≤ _; omega), fun G hG => ?_⟩
    have s13 := same_upd (o := .lst ([.ref p5] ++ L)) hG
    have s913 := s912.trans s13
    have eG : (upd H12 G (.lst ([.ref p5] ++ L))) G = some (.lst ([.ref p5] ++ L)) := upd_same
    have p12 := p9.mono s912
    obtain ⟨_, _, nG, _, p13⟩ := new_facts (o := .lst ([.ref p5] ++ L)) p12 hG rfl
    generalize upd H12 G (.lst ([.ref p5] ++ L)) = H13 at s13 s913 eG p13 ⊢
    have W13 := W9.nl (NL.of s913)
    have X13 := X9.same s913
    have e13 := s913 _ _ e9
    have D13 : ∀ x ∈ [V.ref p5] ++ L, Dx T.Day.C T.Web.C H13 h n rds rm tm x := fun x hx => by
      rcases List.mem_append.mp hx with hx | hx
      · rw [List.mem_singleton] at hx
        subst hx
        exact A9.same s913
      · obtain ⟨rfl, nn⟩ := hL x hx
        exact (B9.resolve_left nn).same s913
    generalize [V.ref p5] ++ L = xs at eG D13 ⊢
    clear s10 s11 s12 s13 s912 s913 p12 p9 W9 X9 A9 B9 R9 e9 e10 e11 hL hl hd hA hB hD hG
    refine ⟨G, rfl, ⟨_, SqL.of eG⟩, for_list (xs := xs) (fun j σ' H' => ∃ (o9 o10 o11 o12 o13 o14 o15 : Option V), σ' = [some (.ref a), some (.ref h), some v, some vl, some vh, some (.ref pm), some (.ref p5), some v7, some (.ref q3), o9, o10, o11, o12, o13, o14, o15] ∧ HandAt H' h c ∧ But h H13 H') ⟨_, _, _, _, _, _, _, rfl, p13, But.refl _ _⟩ (fun j σ' H' _ ⟨_, _, _, _, _, _, _, _, _, b⟩ => SqL.of (b _ _ eG nG)) ?_ ?_⟩
    · rintro j x σ' H14 hj ⟨o9, o10, o11, o12, o13, o14, o15, rfl, p14, b14⟩
      obtain ⟨p, ls, rows, rfl, O, HO, dk⟩ := D13 x (List.mem_of_getElem? hj)
      have O := O.nl (b14.nl p13.lst)
      have W14 := W13.nl (b14.nl p13.lst)
      have X14 := X13.nl (b14.nl p13.lst)
      have e14 := b14 _ _ e13 n9
      clear eG D13
      have lotE : isLot rds (nD (List.range rds.length)) = true := lot_ok (fun j hj => List.mem_range.mp hj) List.pairwise_lt_range
      have sH : isSortD (.str "hours") = true := by decide +kernel
      have sT : isSortD (.str "turns") = true := by decide +kernel
      have rE : Rp H14 h (.ref q3) (nD (List.range rds.length)) := nD_mk e14 (by rw [List.length_range]; omega)
      clear W13 X13 p13 hj j
      refine ⟨_, rfl, _, rfl, h, p, .ref q3, .str "hours", nD (List.range rds.length), .str "hours", n, rds, rm, tm, ls, rows, rfl, O.o, dk, rE, .str _, fun z => (by rw [lotE] at z; cases z), fun _ z => (by rw [sH] at z; cases z), fun _ _ => ⟨List.range rds.length, _, rows, rfl, rfl, .inl ⟨rfl, rfl⟩, fun v1 H15 s15 c1 => ?_⟩⟩
      refine ⟨_, rfl, _, rfl, h, p, .ref q3, .str "turns", nD (List.range rds.length), .str "turns", n, rds, rm, tm, ls, rows, rfl, (O.same s15).o, dk, rE.same s15, .str _, fun z => (by rw [lotE] at z; cases z), fun _ z => (by rw [sT] at z; cases z), fun _ _ => ⟨List.range rds.length, _, itsC ls rows, rfl, rfl, .inr ⟨rfl, rfl⟩, fun v2 H16 s16 c2 => ?_⟩⟩
      have c1 := c1.same s16
      have s46 := s15.trans s16
      have b16 := b14.trans (But.of s46)
      have O := O.same s46
      have W16 := W14.nl (NL.of s46)
      have X16 := X14.same s46
      have e16 := s46 _ _ e14
      have p16 := p14.mono s46
      clear s15 s46 W14 X14 e14 p14 rE s16
      have l60 : ls.length ≤ 60 := dk.l
      have lr : rows.length = ls.length := HO.len
      have li : (itsC ls rows).length = ls.length := itsOf_len _ _ _
      obtain ⟨q1, xs1, rfl, eq1, lx1, f1⟩ := id c1
      obtain ⟨q2, xs2, rfl, eq2, lx2, f2⟩ := id c2
      refine ⟨_, rfl, q1, rfl, ⟨_, SqT.of eq1⟩, fun D1 hD1 => ?_⟩
      refine lc_tup (K := K) (a := q1) (xs := xs1) (fun i H' => Hds H16 h D1 ls rows i H') ⟨same_upd hD1, [], upd_same, rfl, .nil⟩ (fun i H' _ x => SqT.of (x.1 _ _ eq1)) ?_ ?_
      · intro i x H' hx iv
        have hi : i < ls.length := by rw [← lx1]; exact (List.getElem?_eq_some_iff.mp hx).1
        have z1 : ls[i]? = some ls[i] := List.getElem?_eq_getElem hi
        have z2 : rows[i]? = some (rows[i]'(by omega)) := List.getElem?_eq_getElem _
        obtain ⟨x', hx', t, w, u, rfl, et, rw1, eu⟩ := f1 i _ _ _ z1 z2 z2
        rw [hx] at hx'
        cases hx'
        refine ⟨rfl, tyes ⟨_, rfl, ?_⟩⟩
        try delta tNoPart
        refine ⟨_, rfl, slA_raw (iv.1 _ _ et) fun b H'' s'' e'' => iv.step hD1 l60 z1 z2 rw1 s'' e''⟩
      intro H17 iv1
      refine ⟨_, rfl, q2, rfl, ⟨_, SqT.of (iv1.1 _ _ eq2)⟩, fun D2 hD2 => ?_⟩
      refine lc_tup (K := K) (a := q2) (xs := xs2) (fun i H' => Hds H17 h D2 ls rows i H') ⟨same_upd hD2, [], upd_same, rfl, .nil⟩ (fun i H' _ x => SqT.of (x.1 _ _ (iv1.1 _ _ eq2))) ?_ ?_
      · intro i x H' hx iv
        have hi : i < ls.length := by rw [← lx2]; exact (List.getElem?_eq_some_iff.mp hx).1
        have z1 : ls[i]? = some ls[i] := List.getElem?_eq_getElem hi
        have z2 : rows[i]? = some (rows[i]'(by omega)) := List.getElem?_eq_getElem _
        have z3 : (itsC ls rows)[i]? = some ((itsC ls rows)[i]'(by omega)) := List.getElem?_eq_getElem _
        obtain ⟨x', hx', t, w, u, rfl, et, rw1, eu⟩ := f2 i _ _ _ z1 z2 z3
        rw [hx] at hx'
        cases hx'
        refine ⟨rfl, tyes ⟨_, rfl, ?_⟩⟩
        try delta tNoPart
        refine ⟨_, rfl, slA_raw (iv.1 _ _ (iv1.1 _ _ et)) fun b H'' s'' e'' => iv.step hD2 l60 z1 z2 (rw1.same iv1.1) s'' e''⟩
      intro H18 iv2
      obtain ⟨s1, zs1, g1, _, ra1⟩ := iv1
      obtain ⟨s2, zs2, g2, _, ra2⟩ := iv2
      have ef : ∀ m, m = ls.length → (hdD ls rows).take m = hdD ls rows := fun m hm => List.take_of_length_le (by unfold hdD; rw [List.length_map, List.length_range]; omega)
      rw [ef _ lx1] at ra1
      rw [ef _ lx2] at ra2
      refine neL_same (n := 3) (by decide) (s2 _ _ g1) g2 (ra1.same s2) ra2 (isIn_hd ls rows) ⟨_, rfl, iteF ?_⟩
      have s68 := s1.trans s2
      have b18 := b16.trans (But.of s68)
      have c1 := c1.same s68
      have c2 := c2.same s68
      have O := O.same s68
      have W18 := W16.nl (NL.of s68)
      have X18 := X16.same s68
      have e18 := s68 _ _ e16
      have p18 := p16.mono s68
      clear s1 s2 g1 g2 ra1 ra2 f1 f2 eq1 eq2 hD1 hD2 ef s68 W16 X16 e16 p16
      refine ⟨_, rfl, q3, rfl, ⟨_, SqT.of e18⟩, for_tup (xs := (List.range rds.length).map fun j => V.int (j : Nat)) (fun j σ' H' => ∃ o12 : Option V, σ' = [some (.ref a), some (.ref h), some v, some vl, some vh, some (.ref pm), some (.ref p5), some v7, some (.ref q3), some (.ref p), some (.ref q1), some (.ref q2), o12, o13, o14, o15] ∧ Same H18 H') ⟨_, rfl, Same.refl _⟩ (fun j σ' H' _ ⟨_, _, s⟩ => SqT.of (s _ _ e18)) ?_ ?_⟩
      · rintro i x σ' H19 hx ⟨o12, rfl, s19⟩
        have hi : i < rds.length := by have := (List.getElem?_eq_some_iff.mp hx).1; rwa [List.length_map, List.length_range] at this
        obtain rfl : x = .int (i : Nat) := by
          rw [List.getElem?_map, List.getElem?_range hi] at hx
          exact (Option.some.inj hx).symm
        have W19 := W18.nl (NL.of s19)
        have br := W19.br
        have lrm := W19.lr
        obtain ⟨pw3, qw, x3, x4, hv, epw, ex3, ex4⟩ := W19.inv
        have em : rm[i]? = some (rm.getD i 0) := by rw [List.getD_eq_getElem?_getD, List.getElem?_eq_getElem (show i < rm.length by omega)]; rfl
        obtain ⟨g1, g3⟩ := br _ (List.mem_of_getElem? em)
        refine ⟨_, rfl, pw3, _, 2, _, hv, rfl, SqT.of epw, atI_nat (j := 2) rfl, ?_⟩
        refine ⟨_, rfl, x3, _, _, _, rfl, rfl, SqT.of ex3, atI_nat (by rw [List.getElem?_map, em]; rfl), ?_⟩
        refine ⟨_, rfl, _, rfl, _, rfl, h, .ref q1, .ref q2, ls, rows, List.range rds.length, i, rfl, c1.same s19, c2.same s19, HO.ln, l60, fun l hl => ⟨(dk.o.h l hl).2.1, fun k hk => List.mem_range.mpr ((dk.o.h l hl).2.2.1 k hk)⟩, fun pp LL H20 s20 rs e => ?_⟩
        refine ⟨rm.getD i 0, pp, LL, roadT ls rows i, rfl, rs, e, roadT_ok i, g1, g3, roadT_len (fun l hl => (dk.o.h l hl).2.1) l60 i, fun k h1 h2 => no_clash (roadT_ok i) (cap_road dk i (by omega)) h1 h2, fun H21 s21 => ⟨_, rfl, iteF ?_⟩⟩
        exact ⟨_, rfl, s19.trans (s20.trans s21)⟩
      rintro σ' H19 ⟨o12, rfl, s19⟩
      have c1 := c1.same s19
      have c2 := c2.same s19
      have O := O.same s19
      have W19 := W18.nl (NL.of s19)
      have X19 := X18.same s19
      have p19 := p18.mono s19
      have b19 := b18.trans (But.of s19)
      clear W18 X18 e18 p18
      refine ⟨_, rfl, _, rfl, h, c, v, n, rds, rm, tm, rfl, p19, W19, fun vt L H20 p20 b20 rL lL iL => ?_⟩
      have n20 := b20.nl p19.lst
      have c1 := c1.nl n20
      have c2 := c2.nl n20
      have O := O.nl n20
      have X20 := X19.nl n20
      clear W19 X19 p19 n20
      obtain ⟨aL, rfl, eL, _⟩ := nD_inv rL
      have lnR : ∀ (k : Nat) (l : Lt) (is : List Int), ls[k]? = some l → rows[k]? = some is → is.length = l.1.length := fun k l is a b => HO.ln.2 k l is a b
      have lnI : ∀ (k : Nat) (l : Lt) (is : List Int), ls[k]? = some l → (itsC ls rows)[k]? = some is → is.length = l.1.length := fun k l is a b => by
        have hk : k < ls.length := (List.getElem?_eq_some_iff.mp a).1
        have z2 : rows[k]? = some (rows[k]'(by omega)) := List.getElem?_eq_getElem _
        have := itsOf_at (S := srtC (pAll ls rows ls.length)) a z2
        have e : (itsC ls rows)[k]? = _ := this
        rw [e] at b
        cases b
        rw [List.length_map, List.length_range]
      have lw : ∀ l ∈ ls, l.1.length ≤ 8 ∧ ∀ i ∈ l.1, i ∈ List.range rds.length := fun l hl => ⟨(dk.o.h l hl).2.1, fun k hk => List.mem_range.mpr ((dk.o.h l hl).2.2.1 k hk)⟩
      refine ⟨_, rfl, _, rfl, h, p, .ref aL, .str "hours", nD L, .str "hours", n, rds, rm, tm, ls, rows, rfl, O.o, dk, rL, .str _, fun z => (by rw [iL] at z; cases z), fun _ z => (by rw [sH] at z; cases z), fun _ _ => ⟨L, _, rows, rfl, rfl, .inl ⟨rfl, rfl⟩, fun v3 H21 s21 c3 => ?_⟩⟩
      refine ⟨_, rfl, _, rfl, h, aL, .ref q1, ls, rows, rows, List.range rds.length, L, rfl, c1.same s21, s21 _ _ eL, HO.ln, lr, lnR, l60, lw, fun v4 H22 s22 c4 => ?_⟩
      refine ne_cd lr lr (c3.same s22) c4 ⟨_, rfl, iteF ?_⟩
      have s02 := s21.trans s22
      clear s21 s22 c3 c4
      refine ⟨_, rfl, _, rfl, h, p, .ref aL, .str "turns", nD L, .str "turns", n, rds, rm, tm, ls, rows, rfl, (O.same s02).o, dk, rL.same s02, .str _, fun z => (by rw [iL] at z; cases z), fun _ z => (by rw [sT] at z; cases z), fun _ _ => ⟨L, _, itsC ls rows, rfl, rfl, .inr ⟨rfl, rfl⟩, fun v3 H23 s23 c3 => ?_⟩⟩
      have s03 := s02.trans s23
      refine ⟨_, rfl, _, rfl, h, aL, .ref q2, ls, rows, itsC ls rows, List.range rds.length, L, rfl, c2.same s03, s03 _ _ eL, HO.ln, li, lnI, l60, lw, fun v4 H24 s24 c4 => ?_⟩
      refine ne_cd lr li (c3.same s24) c4 ⟨_, rfl, iteF ?_⟩
      have s04 := s03.trans s24
      clear s02 s03 s23 s24 c3 c4
      have l8 : ∀ l ∈ ls, l.1.length ≤ 8 := fun l hl => (dk.o.h l hl).2.1
      have l1000 : ls.length ≤ 1000 := by omega
      refine ⟨_, rfl, _, rfl, _, rfl, _, rfl, h, p, .ref aL, .str "hours", nD L, .str "hours", n, rds, rm, tm, ls, rows, rfl, (O.same s04).o, dk, rL.same s04, .str _, fun z => (by rw [iL] at z; cases z), fun _ z => (by rw [sH] at z; cases z), fun _ _ => ⟨L, _, rows, rfl, rfl, .inl ⟨rfl, rfl⟩, fun v5 H25 s25 c5 => ?_⟩⟩
      have s05 := s04.trans s25
      refine ⟨h, pm, n, rds, rm, tm, .ref aL, .str "hours", v5, nD L, .str "hours", .tup (cdsD L ls rows rows), rfl, (X20.same s05).w, rL.same s05, .str _, c5.rp lr lr l8 l1000, fun z => (by rw [iL] at z; cases z), fun _ z => (by rw [sH] at z; cases z), fun _ _ => ⟨L, _, rfl, rfl, .inl rfl, fun H26 s26 => ?_⟩⟩
      rw [cards_own (.inl ⟨rfl, rfl⟩) dk.o HO]
      refine ⟨_, rfl, iteF ?_⟩
      have s06 := s05.trans s26
      clear s04 s05 s25 s26 c5
      refine ⟨_, rfl, _, rfl, _, rfl, _, rfl, h, p, .ref aL, .str "turns", nD L, .str "turns", n, rds, rm, tm, ls, rows, rfl, (O.same s06).o, dk, rL.same s06, .str _, fun z => (by rw [iL] at z; cases z), fun _ z => (by rw [sT] at z; cases z), fun _ _ => ⟨L, _, itsC ls rows, rfl, rfl, .inr ⟨rfl, rfl⟩, fun v6 H27 s27 c6 => ?_⟩⟩
      have s07 := s06.trans s27
      refine ⟨h, pm, n, rds, rm, tm, .ref aL, .str "turns", v6, nD L, .str "turns", .tup (cdsD L ls rows (itsC ls rows)), rfl, (X20.same s07).w, rL.same s07, .str _, c6.rp lr li l8 l1000, fun z => (by rw [iL] at z; cases z), fun _ z => (by rw [sT] at z; cases z), fun _ _ => ⟨L, _, rfl, rfl, .inr rfl, fun H28 s28 => ?_⟩⟩
      rw [cards_own (.inr ⟨rfl, rfl⟩) dk.o HO]
      refine ⟨_, rfl, iteF ?_⟩
      exact ⟨_, _, _, _, _, _, _, rfl, p20.mono (s07.trans s28), (b19.trans b20).trans (But.of (s07.trans s28))⟩
    · rintro σ' H14 ⟨o9, o10, o11, o12, o13, o14, o15, rfl, p14, b14⟩
      exact kq _
end
end Hc


set_option Elab.async false
set_option linter.all false
set_option maxRecDepth 100000
set_option maxHeartbeats 4000000
set_option autoImplicit false
namespace Hc
open PySem L2
/-- an error of the class at S is what «except S» names -/
theorem exm_self {K : PySem.W.Frag} {S : Addr} (h1 : PySem.W.subIn K (.ref S) (.type "BaseException") = some true) (h2 : PySem.W.isClsIn K S = true) (h3 : PySem.W.typeIn K (.ref S) = some (.type "type")) (h4 : PySem.W.subIn K (.ref S) (.ref S) = some true) :
    PySem.W.exmOne K (.ref S) (.ref S) = some true := by
  have e1 : (PySem.W.subIn K (.ref S) (.type "BaseException") == some true) = true := by rw [h1] <;> rfl
  have e2 : ((PySem.W.clsIn K S).isSome && PySem.W.typeIn K (.ref S) == some (.type "type")) = true := by
    have h2' : (PySem.W.clsIn K S).isSome = true := h2
    rw [h2', h3] <;> rfl
  show (if (PySem.W.subIn K (.ref S) (.type "BaseException") == some true) = true then (if ((PySem.W.clsIn K S).isSome && PySem.W.typeIn K (.ref S) == some (.type "type")) = true then PySem.W.subIn K (.ref S) (.ref S) else none) else none) = some true
  rw [if_pos e1, if_pos e2]
  exact h4
/-- an error of one class is not what «except» of another names -/
theorem exm_two {K : PySem.W.Frag} {S R : Addr} (h1 : PySem.W.subIn K (.ref R) (.type "BaseException") = some true) (h2 : PySem.W.isClsIn K R = true) (h3 : PySem.W.typeIn K (.ref R) = some (.type "type")) {b : Bool} (h4 : PySem.W.subIn K (.ref S) (.ref R) = some b) :
    PySem.W.exmOne K (.ref S) (.ref R) = some b := by
  have e1 : (PySem.W.subIn K (.ref R) (.type "BaseException") == some true) = true := by rw [h1] <;> rfl
  have e2 : ((PySem.W.clsIn K R).isSome && PySem.W.typeIn K (.ref R) == some (.type "type")) = true := by
    have h2' : (PySem.W.clsIn K R).isSome = true := h2
    rw [h2', h3] <;> rfl
  show (if (PySem.W.subIn K (.ref R) (.type "BaseException") == some true) = true then (if ((PySem.W.clsIn K R).isSome && PySem.W.typeIn K (.ref R) == some (.type "type")) = true then PySem.W.subIn K (.ref S) (.ref R) else none) else none) = some b
  rw [if_pos e1, if_pos e2]
  exact h4
theorem tx_mk {K : PySem.W.Frag} {h : Heap} {mg : Str → Option Value} (X : K.In h) (G : h.Ns mainGlobals mg)
    {fisqinteger : Addr} {odisqinteger anisqinteger : Option Addr} {slisqinteger : Array (Option Value)} {ocisqinteger kVisqinteger dcisqinteger pmisqinteger cdisqinteger ctisqinteger : Value}
    {fisqfrom : Addr} {odisqfrom anisqfrom : Option Addr} {slisqfrom : Array (Option Value)} {ocisqfrom kVisqfrom dcisqfrom pmisqfrom cdisqfrom ctisqfrom : Value}
    {fisqbetween : Addr} {odisqbetween anisqbetween : Option Addr} {slisqbetween : Array (Option Value)} {ocisqbetween kVisqbetween dcisqbetween pmisqbetween cdisqbetween ctisqbetween : Value}
    {fisqtuple : Addr} {odisqtuple anisqtuple : Option Addr} {slisqtuple : Array (Option Value)} {ocisqtuple kVisqtuple dcisqtuple pmisqtuple cdisqtuple ctisqtuple : Value}
    {fisqpair : Addr} {odisqpair anisqpair : Option Addr} {slisqpair : Array (Option Value)} {ocisqpair kVisqpair dcisqpair pmisqpair cdisqpair ctisqpair : Value}
    {fareqintegers : Addr} {odareqintegers anareqintegers : Option Addr} {slareqintegers : Array (Option Value)} {ocareqintegers kVareqintegers dcareqintegers pmareqintegers cdareqintegers ctareqintegers : Value}
    {fareqbetween : Addr} {odareqbetween anareqbetween : Option Addr} {slareqbetween : Array (Option Value)} {ocareqbetween kVareqbetween dcareqbetween pmareqbetween cdareqbetween ctareqbetween : Value}
    {fareqroads : Addr} {odareqroads anareqroads : Option Addr} {slareqroads : Array (Option Value)} {ocareqroads kVareqroads dcareqroads pmareqroads cdareqroads ctareqroads : Value}
    {fisqbeginqandqend : Addr} {odisqbeginqandqend anisqbeginqandqend : Option Addr} {slisqbeginqandqend : Array (Option Value)} {ocisqbeginqandqend kVisqbeginqandqend dcisqbeginqandqend pmisqbeginqandqend cdisqbeginqandqend ctisqbeginqandqend : Value}
    {fisqroad : Addr} {odisqroad anisqroad : Option Addr} {slisqroad : Array (Option Value)} {ocisqroad kVisqroad dcisqroad pmisqroad cdisqroad ctisqroad : Value}
    {fisqway : Addr} {odisqway anisqway : Option Addr} {slisqway : Array (Option Value)} {ocisqway kVisqway dcisqway pmisqway cdisqway ctisqway : Value}
    {fisqlot : Addr} {odisqlot anisqlot : Option Addr} {slisqlot : Array (Option Value)} {ocisqlot kVisqlot dcisqlot pmisqlot cdisqlot ctisqlot : Value}
    {fisqletter : Addr} {odisqletter anisqletter : Option Addr} {slisqletter : Array (Option Value)} {ocisqletter kVisqletter dcisqletter pmisqletter cdisqletter ctisqletter : Value}
    {fareqletters : Addr} {odareqletters anareqletters : Option Addr} {slareqletters : Array (Option Value)} {ocareqletters kVareqletters dcareqletters pmareqletters cdareqletters ctareqletters : Value}
    {fareqhours : Addr} {odareqhours anareqhours : Option Addr} {slareqhours : Array (Option Value)} {ocareqhours kVareqhours dcareqhours pmareqhours cdareqhours ctareqhours : Value}
    {ffirstqticks : Addr} {odfirstqticks anfirstqticks : Option Addr} {slfirstqticks : Array (Option Value)} {ocfirstqticks kVfirstqticks dcfirstqticks pmfirstqticks cdfirstqticks ctfirstqticks : Value}
    {fsomeqearly : Addr} {odsomeqearly ansomeqearly : Option Addr} {slsomeqearly : Array (Option Value)} {ocsomeqearly kVsomeqearly dcsomeqearly pmsomeqearly cdsomeqearly ctsomeqearly : Value}
    {fsomeqfull : Addr} {odsomeqfull ansomeqfull : Option Addr} {slsomeqfull : Array (Option Value)} {ocsomeqfull kVsomeqfull dcsomeqfull pmsomeqfull cdsomeqfull ctsomeqfull : Value}
    {fdayqofqanyqsize : Addr} {oddayqofqanyqsize andayqofqanyqsize : Option Addr} {sldayqofqanyqsize : Array (Option Value)} {ocdayqofqanyqsize kVdayqofqanyqsize dcdayqofqanyqsize pmdayqofqanyqsize cddayqofqanyqsize ctdayqofqanyqsize : Value}
    {fshifted : Addr} {odshifted anshifted : Option Addr} {slshifted : Array (Option Value)} {ocshifted kVshifted dcshifted pmshifted cdshifted ctshifted : Value}
    {flaidqover : Addr} {odlaidqover anlaidqover : Option Addr} {sllaidqover : Array (Option Value)} {oclaidqover kVlaidqover dclaidqover pmlaidqover cdlaidqover ctlaidqover : Value}
    {fisqsort : Addr} {odisqsort anisqsort : Option Addr} {slisqsort : Array (Option Value)} {ocisqsort kVisqsort dcisqsort pmisqsort cdisqsort ctisqsort : Value}
    {fcheckqlotqandqsort : Addr} {odcheckqlotqandqsort ancheckqlotqandqsort : Option Addr} {slcheckqlotqandqsort : Array (Option Value)} {occheckqlotqandqsort kVcheckqlotqandqsort dccheckqlotqandqsort pmcheckqlotqandqsort cdcheckqlotqandqsort ctcheckqlotqandqsort : Value}
    {fcards : Addr} {odcards ancards : Option Addr} {slcards : Array (Option Value)} {occards kVcards dccards pmcards cdcards ctcards : Value}
    {fcardsqof : Addr} {odcardsqof ancardsqof : Option Addr} {slcardsqof : Array (Option Value)} {occardsqof kVcardsqof dccardsqof pmcardsqof cdcardsqof ctcardsqof : Value}
    {ftoldqof : Addr} {odtoldqof antoldqof : Option Addr} {sltoldqof : Array (Option Value)} {octoldqof kVtoldqof dctoldqof pmtoldqof cdtoldqof cttoldqof : Value}
    {fturnsqof : Addr} {odturnsqof anturnsqof : Option Addr} {slturnsqof : Array (Option Value)} {octurnsqof kVturnsqof dcturnsqof pmturnsqof cdturnsqof ctturnsqof : Value}
    {fareqcards : Addr} {odareqcards anareqcards : Option Addr} {slareqcards : Array (Option Value)} {ocareqcards kVareqcards dcareqcards pmareqcards cdareqcards ctareqcards : Value}
    {fisqcard : Addr} {odisqcard anisqcard : Option Addr} {slisqcard : Array (Option Value)} {ocisqcard kVisqcard dcisqcard pmisqcard cdisqcard ctisqcard : Value}
    {fisqtold : Addr} {odisqtold anisqtold : Option Addr} {slisqtold : Array (Option Value)} {ocisqtold kVisqtold dcisqtold pmisqtold cdisqtold ctisqtold : Value}
    {fisqalone : Addr} {odisqalone anisqalone : Option Addr} {slisqalone : Array (Option Value)} {ocisqalone kVisqalone dcisqalone pmisqalone cdisqalone ctisqalone : Value}
    {fqlawqhand : Addr} {odqlawqhand anqlawqhand : Option Addr} {slqlawqhand : Array (Option Value)} {ocqlawqhand kVqlawqhand dcqlawqhand pmqlawqhand cdqlawqhand ctqlawqhand : Value}
    {fqlawqdraw : Addr} {odqlawqdraw anqlawqdraw : Option Addr} {slqlawqdraw : Array (Option Value)} {ocqlawqdraw kVqlawqdraw dcqlawqdraw pmqlawqdraw cdqlawqdraw ctqlawqdraw : Value}
    {fqlawqcounts : Addr} {odqlawqcounts anqlawqcounts : Option Addr} {slqlawqcounts : Array (Option Value)} {ocqlawqcounts kVqlawqcounts dcqlawqcounts pmqlawqcounts cdqlawqcounts ctqlawqcounts : Value}
    {fqlawqweb : Addr} {odqlawqweb anqlawqweb : Option Addr} {slqlawqweb : Array (Option Value)} {ocqlawqweb kVqlawqweb dcqlawqweb pmqlawqweb cdqlawqweb ctqlawqweb : Value}
    {fqlawqnext : Addr} {odqlawqnext anqlawqnext : Option Addr} {slqlawqnext : Array (Option Value)} {ocqlawqnext kVqlawqnext dcqlawqnext pmqlawqnext cdqlawqnext ctqlawqnext : Value}
    {fqlawqway : Addr} {odqlawqway anqlawqway : Option Addr} {slqlawqway : Array (Option Value)} {ocqlawqway kVqlawqway dcqlawqway pmqlawqway cdqlawqway ctqlawqway : Value}
    {fqlawqletters : Addr} {odqlawqletters anqlawqletters : Option Addr} {slqlawqletters : Array (Option Value)} {ocqlawqletters kVqlawqletters dcqlawqletters pmqlawqletters cdqlawqletters ctqlawqletters : Value}
    {fqlawqready : Addr} {odqlawqready anqlawqready : Option Addr} {slqlawqready : Array (Option Value)} {ocqlawqready kVqlawqready dcqlawqready pmqlawqready cdqlawqready ctqlawqready : Value}
    {fqlawqhours : Addr} {odqlawqhours anqlawqhours : Option Addr} {slqlawqhours : Array (Option Value)} {ocqlawqhours kVqlawqhours dcqlawqhours pmqlawqhours cdqlawqhours ctqlawqhours : Value}
    {fqlawqlot : Addr} {odqlawqlot anqlawqlot : Option Addr} {slqlawqlot : Array (Option Value)} {ocqlawqlot kVqlawqlot dcqlawqlot pmqlawqlot cdqlawqlot ctqlawqlot : Value}
    {fqlawqmade : Addr} {odqlawqmade anqlawqmade : Option Addr} {slqlawqmade : Array (Option Value)} {ocqlawqmade kVqlawqmade dcqlawqmade pmqlawqmade cdqlawqmade ctqlawqmade : Value}
    {fqlawqday : Addr} {odqlawqday anqlawqday : Option Addr} {slqlawqday : Array (Option Value)} {ocqlawqday kVqlawqday dcqlawqday pmqlawqday cdqlawqday ctqlawqday : Value}
    {fqlawqpassings : Addr} {odqlawqpassings anqlawqpassings : Option Addr} {slqlawqpassings : Array (Option Value)} {ocqlawqpassings kVqlawqpassings dcqlawqpassings pmqlawqpassings cdqlawqpassings ctqlawqpassings : Value}
    {fqlawqroadqfits : Addr} {odqlawqroadqfits anqlawqroadqfits : Option Addr} {slqlawqroadqfits : Array (Option Value)} {ocqlawqroadqfits kVqlawqroadqfits dcqlawqroadqfits pmqlawqroadqfits cdqlawqroadqfits ctqlawqroadqfits : Value}
    {fqlawqless : Addr} {odqlawqless anqlawqless : Option Addr} {slqlawqless : Array (Option Value)} {ocqlawqless kVqlawqless dcqlawqless pmqlawqless cdqlawqless ctqlawqless : Value}
    {flaw : Addr} {odlaw anlaw : Option Addr} {sllaw : Array (Option Value)} {oclaw kVlaw dclaw pmlaw cdlaw ctlaw : Value}
    {tMOSTqHOUSES : Tok}
    {tMOSTqROADS : Tok}
    {tMOSTqROOMS : Tok}
    {tLONGESTqTIME : Tok}
    {tLONGESTqWAY : Tok}
    {tMOSTqLETTERS : Tok}
    {tLASTqTICK : Tok}
    {SSORTS : Addr} {ddSORTS : Option Addr} {nSORTS : Nat} {slSORTS : Array (Option Value)} {tSORTS0 tSORTS1 : Tok}
    {CWWeb fWWeb : Addr} {odWWeb anWWeb : Option Addr} {slWWeb : Array (Option Value)} {ocWWeb kVWWeb dcWWeb pmWWeb cdWWeb ctWWeb : Value}
    {CWDay fWDay : Addr} {odWDay anWDay : Option Addr} {slWDay : Array (Option Value)} {ocWDay kVWDay dcWDay pmWDay cdWDay ctWDay : Value}
    {fQWeb : Addr} {odQWeb anQWeb : Option Addr} {slQWeb : Array (Option Value)} {ocQWeb kVQWeb dcQWeb pmQWeb cdQWeb ctQWeb : Value}
    {CXBadWeb fXBadWeb : Addr} {odXBadWeb anXBadWeb : Option Addr} {slXBadWeb : Array (Option Value)} {ocXBadWeb kVXBadWeb dcXBadWeb pmXBadWeb cdXBadWeb ctXBadWeb : Value} {nmXBadWeb qnXBadWeb : Str} {NXBadWeb : Addr} {bsXBadWeb bmXBadWeb : List Value} {snXBadWeb : List Str} {subXBadWeb : List Value} {abXBadWeb : Bool} {colXBadWeb : Option Bool} {ddXBadWeb : Option Addr} {m0XBadWeb m1XBadWeb m2XBadWeb m3XBadWeb m5XBadWeb : Option Value}
    {CXBadDay fXBadDay : Addr} {odXBadDay anXBadDay : Option Addr} {slXBadDay : Array (Option Value)} {ocXBadDay kVXBadDay dcXBadDay pmXBadDay cdXBadDay ctXBadDay : Value} {nmXBadDay qnXBadDay : Str} {NXBadDay : Addr} {bsXBadDay bmXBadDay : List Value} {snXBadDay : List Str} {subXBadDay : List Value} {abXBadDay : Bool} {colXBadDay : Option Bool} {ddXBadDay : Option Addr} {m0XBadDay m1XBadDay m2XBadDay m3XBadDay m5XBadDay : Option Value}
    {CXNoNumber fXNoNumber : Addr} {odXNoNumber anXNoNumber : Option Addr} {slXNoNumber : Array (Option Value)} {ocXNoNumber kVXNoNumber dcXNoNumber pmXNoNumber cdXNoNumber ctXNoNumber : Value} {nmXNoNumber qnXNoNumber : Str} {NXNoNumber : Addr} {bsXNoNumber bmXNoNumber : List Value} {snXNoNumber : List Str} {subXNoNumber : List Value} {abXNoNumber : Bool} {colXNoNumber : Option Bool} {ddXNoNumber : Option Addr} {m0XNoNumber m1XNoNumber m2XNoNumber m3XNoNumber m5XNoNumber : Option Value}
    {CXOtherWeb fXOtherWeb : Addr} {odXOtherWeb anXOtherWeb : Option Addr} {slXOtherWeb : Array (Option Value)} {ocXOtherWeb kVXOtherWeb dcXOtherWeb pmXOtherWeb cdXOtherWeb ctXOtherWeb : Value} {nmXOtherWeb qnXOtherWeb : Str} {NXOtherWeb : Addr} {bsXOtherWeb bmXOtherWeb : List Value} {snXOtherWeb : List Str} {subXOtherWeb : List Value} {abXOtherWeb : Bool} {colXOtherWeb : Option Bool} {ddXOtherWeb : Option Addr} {m0XOtherWeb m1XOtherWeb m2XOtherWeb m3XOtherWeb m5XOtherWeb : Option Value}
    {CXNoLot fXNoLot : Addr} {odXNoLot anXNoLot : Option Addr} {slXNoLot : Array (Option Value)} {ocXNoLot kVXNoLot dcXNoLot pmXNoLot cdXNoLot ctXNoLot : Value} {nmXNoLot qnXNoLot : Str} {NXNoLot : Addr} {bsXNoLot bmXNoLot : List Value} {snXNoLot : List Str} {subXNoLot : List Value} {abXNoLot : Bool} {colXNoLot : Option Bool} {ddXNoLot : Option Addr} {m0XNoLot m1XNoLot m2XNoLot m3XNoLot m5XNoLot : Option Value}
    {CXNoSort fXNoSort : Addr} {odXNoSort anXNoSort : Option Addr} {slXNoSort : Array (Option Value)} {ocXNoSort kVXNoSort dcXNoSort pmXNoSort cdXNoSort ctXNoSort : Value} {nmXNoSort qnXNoSort : Str} {NXNoSort : Addr} {bsXNoSort bmXNoSort : List Value} {snXNoSort : List Str} {subXNoSort : List Value} {abXNoSort : Bool} {colXNoSort : Option Bool} {ddXNoSort : Option Addr} {m0XNoSort m1XNoSort m2XNoSort m3XNoSort m5XNoSort : Option Value}
    (aisqinteger : PySem.W.nsIn K mainGlobals "is_integer" = some (some (.ref fisqinteger)))
    (lisqinteger : K.lookup fisqinteger = some ⟨ocisqinteger, odisqinteger, .func (PySem.W.fnOf "is_integer" "is_integer" (defArgs s_is_integer) (defBody s_is_integer) (defScope s_is_integer) .none kVisqinteger dcisqinteger pmisqinteger anisqinteger cdisqinteger ctisqinteger), slisqinteger⟩)
    (cisqinteger : PySem.W.codeIn K cdisqinteger "is_integer" = true)
    (kisqinteger : PySem.W.keepIn K (.ref fisqinteger) = true)
    (aisqfrom : PySem.W.nsIn K mainGlobals "is_from" = some (some (.ref fisqfrom)))
    (lisqfrom : K.lookup fisqfrom = some ⟨ocisqfrom, odisqfrom, .func (PySem.W.fnOf "is_from" "is_from" (defArgs s_is_from) (defBody s_is_from) (defScope s_is_from) .none kVisqfrom dcisqfrom pmisqfrom anisqfrom cdisqfrom ctisqfrom), slisqfrom⟩)
    (cisqfrom : PySem.W.codeIn K cdisqfrom "is_from" = true)
    (kisqfrom : PySem.W.keepIn K (.ref fisqfrom) = true)
    (aisqbetween : PySem.W.nsIn K mainGlobals "is_between" = some (some (.ref fisqbetween)))
    (lisqbetween : K.lookup fisqbetween = some ⟨ocisqbetween, odisqbetween, .func (PySem.W.fnOf "is_between" "is_between" (defArgs s_is_between) (defBody s_is_between) (defScope s_is_between) .none kVisqbetween dcisqbetween pmisqbetween anisqbetween cdisqbetween ctisqbetween), slisqbetween⟩)
    (cisqbetween : PySem.W.codeIn K cdisqbetween "is_between" = true)
    (kisqbetween : PySem.W.keepIn K (.ref fisqbetween) = true)
    (aisqtuple : PySem.W.nsIn K mainGlobals "is_tuple" = some (some (.ref fisqtuple)))
    (lisqtuple : K.lookup fisqtuple = some ⟨ocisqtuple, odisqtuple, .func (PySem.W.fnOf "is_tuple" "is_tuple" (defArgs s_is_tuple) (defBody s_is_tuple) (defScope s_is_tuple) .none kVisqtuple dcisqtuple pmisqtuple anisqtuple cdisqtuple ctisqtuple), slisqtuple⟩)
    (cisqtuple : PySem.W.codeIn K cdisqtuple "is_tuple" = true)
    (kisqtuple : PySem.W.keepIn K (.ref fisqtuple) = true)
    (aisqpair : PySem.W.nsIn K mainGlobals "is_pair" = some (some (.ref fisqpair)))
    (lisqpair : K.lookup fisqpair = some ⟨ocisqpair, odisqpair, .func (PySem.W.fnOf "is_pair" "is_pair" (defArgs s_is_pair) (defBody s_is_pair) (defScope s_is_pair) .none kVisqpair dcisqpair pmisqpair anisqpair cdisqpair ctisqpair), slisqpair⟩)
    (cisqpair : PySem.W.codeIn K cdisqpair "is_pair" = true)
    (kisqpair : PySem.W.keepIn K (.ref fisqpair) = true)
    (aareqintegers : PySem.W.nsIn K mainGlobals "are_integers" = some (some (.ref fareqintegers)))
    (lareqintegers : K.lookup fareqintegers = some ⟨ocareqintegers, odareqintegers, .func (PySem.W.fnOf "are_integers" "are_integers" (defArgs s_are_integers) (defBody s_are_integers) (defScope s_are_integers) .none kVareqintegers dcareqintegers pmareqintegers anareqintegers cdareqintegers ctareqintegers), slareqintegers⟩)
    (careqintegers : PySem.W.codeIn K cdareqintegers "are_integers" = true)
    (kareqintegers : PySem.W.keepIn K (.ref fareqintegers) = true)
    (aareqbetween : PySem.W.nsIn K mainGlobals "are_between" = some (some (.ref fareqbetween)))
    (lareqbetween : K.lookup fareqbetween = some ⟨ocareqbetween, odareqbetween, .func (PySem.W.fnOf "are_between" "are_between" (defArgs s_are_between) (defBody s_are_between) (defScope s_are_between) .none kVareqbetween dcareqbetween pmareqbetween anareqbetween cdareqbetween ctareqbetween), slareqbetween⟩)
    (careqbetween : PySem.W.codeIn K cdareqbetween "are_between" = true)
    (kareqbetween : PySem.W.keepIn K (.ref fareqbetween) = true)
    (aareqroads : PySem.W.nsIn K mainGlobals "are_roads" = some (some (.ref fareqroads)))
    (lareqroads : K.lookup fareqroads = some ⟨ocareqroads, odareqroads, .func (PySem.W.fnOf "are_roads" "are_roads" (defArgs s_are_roads) (defBody s_are_roads) (defScope s_are_roads) .none kVareqroads dcareqroads pmareqroads anareqroads cdareqroads ctareqroads), slareqroads⟩)
    (careqroads : PySem.W.codeIn K cdareqroads "are_roads" = true)
    (kareqroads : PySem.W.keepIn K (.ref fareqroads) = true)
    (aisqbeginqandqend : PySem.W.nsIn K mainGlobals "is_begin_and_end" = some (some (.ref fisqbeginqandqend)))
    (lisqbeginqandqend : K.lookup fisqbeginqandqend = some ⟨ocisqbeginqandqend, odisqbeginqandqend, .func (PySem.W.fnOf "is_begin_and_end" "is_begin_and_end" (defArgs s_is_begin_and_end) (defBody s_is_begin_and_end) (defScope s_is_begin_and_end) .none kVisqbeginqandqend dcisqbeginqandqend pmisqbeginqandqend anisqbeginqandqend cdisqbeginqandqend ctisqbeginqandqend), slisqbeginqandqend⟩)
    (cisqbeginqandqend : PySem.W.codeIn K cdisqbeginqandqend "is_begin_and_end" = true)
    (kisqbeginqandqend : PySem.W.keepIn K (.ref fisqbeginqandqend) = true)
    (aisqroad : PySem.W.nsIn K mainGlobals "is_road" = some (some (.ref fisqroad)))
    (lisqroad : K.lookup fisqroad = some ⟨ocisqroad, odisqroad, .func (PySem.W.fnOf "is_road" "is_road" (defArgs s_is_road) (defBody s_is_road) (defScope s_is_road) .none kVisqroad dcisqroad pmisqroad anisqroad cdisqroad ctisqroad), slisqroad⟩)
    (cisqroad : PySem.W.codeIn K cdisqroad "is_road" = true)
    (kisqroad : PySem.W.keepIn K (.ref fisqroad) = true)
    (aisqway : PySem.W.nsIn K mainGlobals "is_way" = some (some (.ref fisqway)))
    (lisqway : K.lookup fisqway = some ⟨ocisqway, odisqway, .func (PySem.W.fnOf "is_way" "is_way" (defArgs s_is_way) (defBody s_is_way) (defScope s_is_way) .none kVisqway dcisqway pmisqway anisqway cdisqway ctisqway), slisqway⟩)
    (cisqway : PySem.W.codeIn K cdisqway "is_way" = true)
    (kisqway : PySem.W.keepIn K (.ref fisqway) = true)
    (aisqlot : PySem.W.nsIn K mainGlobals "is_lot" = some (some (.ref fisqlot)))
    (lisqlot : K.lookup fisqlot = some ⟨ocisqlot, odisqlot, .func (PySem.W.fnOf "is_lot" "is_lot" (defArgs s_is_lot) (defBody s_is_lot) (defScope s_is_lot) .none kVisqlot dcisqlot pmisqlot anisqlot cdisqlot ctisqlot), slisqlot⟩)
    (cisqlot : PySem.W.codeIn K cdisqlot "is_lot" = true)
    (kisqlot : PySem.W.keepIn K (.ref fisqlot) = true)
    (aisqletter : PySem.W.nsIn K mainGlobals "is_letter" = some (some (.ref fisqletter)))
    (lisqletter : K.lookup fisqletter = some ⟨ocisqletter, odisqletter, .func (PySem.W.fnOf "is_letter" "is_letter" (defArgs s_is_letter) (defBody s_is_letter) (defScope s_is_letter) .none kVisqletter dcisqletter pmisqletter anisqletter cdisqletter ctisqletter), slisqletter⟩)
    (cisqletter : PySem.W.codeIn K cdisqletter "is_letter" = true)
    (kisqletter : PySem.W.keepIn K (.ref fisqletter) = true)
    (aareqletters : PySem.W.nsIn K mainGlobals "are_letters" = some (some (.ref fareqletters)))
    (lareqletters : K.lookup fareqletters = some ⟨ocareqletters, odareqletters, .func (PySem.W.fnOf "are_letters" "are_letters" (defArgs s_are_letters) (defBody s_are_letters) (defScope s_are_letters) .none kVareqletters dcareqletters pmareqletters anareqletters cdareqletters ctareqletters), slareqletters⟩)
    (careqletters : PySem.W.codeIn K cdareqletters "are_letters" = true)
    (kareqletters : PySem.W.keepIn K (.ref fareqletters) = true)
    (aareqhours : PySem.W.nsIn K mainGlobals "are_hours" = some (some (.ref fareqhours)))
    (lareqhours : K.lookup fareqhours = some ⟨ocareqhours, odareqhours, .func (PySem.W.fnOf "are_hours" "are_hours" (defArgs s_are_hours) (defBody s_are_hours) (defScope s_are_hours) .none kVareqhours dcareqhours pmareqhours anareqhours cdareqhours ctareqhours), slareqhours⟩)
    (careqhours : PySem.W.codeIn K cdareqhours "are_hours" = true)
    (kareqhours : PySem.W.keepIn K (.ref fareqhours) = true)
    (afirstqticks : PySem.W.nsIn K mainGlobals "first_ticks" = some (some (.ref ffirstqticks)))
    (lfirstqticks : K.lookup ffirstqticks = some ⟨ocfirstqticks, odfirstqticks, .func (PySem.W.fnOf "first_ticks" "first_ticks" (defArgs s_first_ticks) (defBody s_first_ticks) (defScope s_first_ticks) .none kVfirstqticks dcfirstqticks pmfirstqticks anfirstqticks cdfirstqticks ctfirstqticks), slfirstqticks⟩)
    (cfirstqticks : PySem.W.codeIn K cdfirstqticks "first_ticks" = true)
    (kfirstqticks : PySem.W.keepIn K (.ref ffirstqticks) = true)
    (asomeqearly : PySem.W.nsIn K mainGlobals "some_early" = some (some (.ref fsomeqearly)))
    (lsomeqearly : K.lookup fsomeqearly = some ⟨ocsomeqearly, odsomeqearly, .func (PySem.W.fnOf "some_early" "some_early" (defArgs s_some_early) (defBody s_some_early) (defScope s_some_early) .none kVsomeqearly dcsomeqearly pmsomeqearly ansomeqearly cdsomeqearly ctsomeqearly), slsomeqearly⟩)
    (csomeqearly : PySem.W.codeIn K cdsomeqearly "some_early" = true)
    (ksomeqearly : PySem.W.keepIn K (.ref fsomeqearly) = true)
    (asomeqfull : PySem.W.nsIn K mainGlobals "some_full" = some (some (.ref fsomeqfull)))
    (lsomeqfull : K.lookup fsomeqfull = some ⟨ocsomeqfull, odsomeqfull, .func (PySem.W.fnOf "some_full" "some_full" (defArgs s_some_full) (defBody s_some_full) (defScope s_some_full) .none kVsomeqfull dcsomeqfull pmsomeqfull ansomeqfull cdsomeqfull ctsomeqfull), slsomeqfull⟩)
    (csomeqfull : PySem.W.codeIn K cdsomeqfull "some_full" = true)
    (ksomeqfull : PySem.W.keepIn K (.ref fsomeqfull) = true)
    (adayqofqanyqsize : PySem.W.nsIn K mainGlobals "day_of_any_size" = some (some (.ref fdayqofqanyqsize)))
    (ldayqofqanyqsize : K.lookup fdayqofqanyqsize = some ⟨ocdayqofqanyqsize, oddayqofqanyqsize, .func (PySem.W.fnOf "day_of_any_size" "day_of_any_size" (defArgs s_day_of_any_size) (defBody s_day_of_any_size) (defScope s_day_of_any_size) .none kVdayqofqanyqsize dcdayqofqanyqsize pmdayqofqanyqsize andayqofqanyqsize cddayqofqanyqsize ctdayqofqanyqsize), sldayqofqanyqsize⟩)
    (cdayqofqanyqsize : PySem.W.codeIn K cddayqofqanyqsize "day_of_any_size" = true)
    (kdayqofqanyqsize : PySem.W.keepIn K (.ref fdayqofqanyqsize) = true)
    (ashifted : PySem.W.nsIn K mainGlobals "shifted" = some (some (.ref fshifted)))
    (lshifted : K.lookup fshifted = some ⟨ocshifted, odshifted, .func (PySem.W.fnOf "shifted" "shifted" (defArgs s_shifted) (defBody s_shifted) (defScope s_shifted) .none kVshifted dcshifted pmshifted anshifted cdshifted ctshifted), slshifted⟩)
    (cshifted : PySem.W.codeIn K cdshifted "shifted" = true)
    (kshifted : PySem.W.keepIn K (.ref fshifted) = true)
    (alaidqover : PySem.W.nsIn K mainGlobals "laid_over" = some (some (.ref flaidqover)))
    (llaidqover : K.lookup flaidqover = some ⟨oclaidqover, odlaidqover, .func (PySem.W.fnOf "laid_over" "laid_over" (defArgs s_laid_over) (defBody s_laid_over) (defScope s_laid_over) .none kVlaidqover dclaidqover pmlaidqover anlaidqover cdlaidqover ctlaidqover), sllaidqover⟩)
    (claidqover : PySem.W.codeIn K cdlaidqover "laid_over" = true)
    (klaidqover : PySem.W.keepIn K (.ref flaidqover) = true)
    (aisqsort : PySem.W.nsIn K mainGlobals "is_sort" = some (some (.ref fisqsort)))
    (lisqsort : K.lookup fisqsort = some ⟨ocisqsort, odisqsort, .func (PySem.W.fnOf "is_sort" "is_sort" (defArgs s_is_sort) (defBody s_is_sort) (defScope s_is_sort) .none kVisqsort dcisqsort pmisqsort anisqsort cdisqsort ctisqsort), slisqsort⟩)
    (cisqsort : PySem.W.codeIn K cdisqsort "is_sort" = true)
    (kisqsort : PySem.W.keepIn K (.ref fisqsort) = true)
    (acheckqlotqandqsort : PySem.W.nsIn K mainGlobals "check_lot_and_sort" = some (some (.ref fcheckqlotqandqsort)))
    (lcheckqlotqandqsort : K.lookup fcheckqlotqandqsort = some ⟨occheckqlotqandqsort, odcheckqlotqandqsort, .func (PySem.W.fnOf "check_lot_and_sort" "check_lot_and_sort" (defArgs s_check_lot_and_sort) (defBody s_check_lot_and_sort) (defScope s_check_lot_and_sort) .none kVcheckqlotqandqsort dccheckqlotqandqsort pmcheckqlotqandqsort ancheckqlotqandqsort cdcheckqlotqandqsort ctcheckqlotqandqsort), slcheckqlotqandqsort⟩)
    (ccheckqlotqandqsort : PySem.W.codeIn K cdcheckqlotqandqsort "check_lot_and_sort" = true)
    (kcheckqlotqandqsort : PySem.W.keepIn K (.ref fcheckqlotqandqsort) = true)
    (acards : PySem.W.nsIn K mainGlobals "cards" = some (some (.ref fcards)))
    (lcards : K.lookup fcards = some ⟨occards, odcards, .func (PySem.W.fnOf "cards" "cards" (defArgs s_cards) (defBody s_cards) (defScope s_cards) .none kVcards dccards pmcards ancards cdcards ctcards), slcards⟩)
    (ccards : PySem.W.codeIn K cdcards "cards" = true)
    (kcards : PySem.W.keepIn K (.ref fcards) = true)
    (acardsqof : PySem.W.nsIn K mainGlobals "cards_of" = some (some (.ref fcardsqof)))
    (lcardsqof : K.lookup fcardsqof = some ⟨occardsqof, odcardsqof, .func (PySem.W.fnOf "cards_of" "cards_of" (defArgs s_cards_of) (defBody s_cards_of) (defScope s_cards_of) .none kVcardsqof dccardsqof pmcardsqof ancardsqof cdcardsqof ctcardsqof), slcardsqof⟩)
    (ccardsqof : PySem.W.codeIn K cdcardsqof "cards_of" = true)
    (kcardsqof : PySem.W.keepIn K (.ref fcardsqof) = true)
    (atoldqof : PySem.W.nsIn K mainGlobals "told_of" = some (some (.ref ftoldqof)))
    (ltoldqof : K.lookup ftoldqof = some ⟨octoldqof, odtoldqof, .func (PySem.W.fnOf "told_of" "told_of" (defArgs s_told_of) (defBody s_told_of) (defScope s_told_of) .none kVtoldqof dctoldqof pmtoldqof antoldqof cdtoldqof cttoldqof), sltoldqof⟩)
    (ctoldqof : PySem.W.codeIn K cdtoldqof "told_of" = true)
    (ktoldqof : PySem.W.keepIn K (.ref ftoldqof) = true)
    (aturnsqof : PySem.W.nsIn K mainGlobals "turns_of" = some (some (.ref fturnsqof)))
    (lturnsqof : K.lookup fturnsqof = some ⟨octurnsqof, odturnsqof, .func (PySem.W.fnOf "turns_of" "turns_of" (defArgs s_turns_of) (defBody s_turns_of) (defScope s_turns_of) .none kVturnsqof dcturnsqof pmturnsqof anturnsqof cdturnsqof ctturnsqof), slturnsqof⟩)
    (cturnsqof : PySem.W.codeIn K cdturnsqof "turns_of" = true)
    (kturnsqof : PySem.W.keepIn K (.ref fturnsqof) = true)
    (aareqcards : PySem.W.nsIn K mainGlobals "are_cards" = some (some (.ref fareqcards)))
    (lareqcards : K.lookup fareqcards = some ⟨ocareqcards, odareqcards, .func (PySem.W.fnOf "are_cards" "are_cards" (defArgs s_are_cards) (defBody s_are_cards) (defScope s_are_cards) .none kVareqcards dcareqcards pmareqcards anareqcards cdareqcards ctareqcards), slareqcards⟩)
    (careqcards : PySem.W.codeIn K cdareqcards "are_cards" = true)
    (kareqcards : PySem.W.keepIn K (.ref fareqcards) = true)
    (aisqcard : PySem.W.nsIn K mainGlobals "is_card" = some (some (.ref fisqcard)))
    (lisqcard : K.lookup fisqcard = some ⟨ocisqcard, odisqcard, .func (PySem.W.fnOf "is_card" "is_card" (defArgs s_is_card) (defBody s_is_card) (defScope s_is_card) .none kVisqcard dcisqcard pmisqcard anisqcard cdisqcard ctisqcard), slisqcard⟩)
    (cisqcard : PySem.W.codeIn K cdisqcard "is_card" = true)
    (kisqcard : PySem.W.keepIn K (.ref fisqcard) = true)
    (aisqtold : PySem.W.nsIn K mainGlobals "is_told" = some (some (.ref fisqtold)))
    (lisqtold : K.lookup fisqtold = some ⟨ocisqtold, odisqtold, .func (PySem.W.fnOf "is_told" "is_told" (defArgs s_is_told) (defBody s_is_told) (defScope s_is_told) .none kVisqtold dcisqtold pmisqtold anisqtold cdisqtold ctisqtold), slisqtold⟩)
    (cisqtold : PySem.W.codeIn K cdisqtold "is_told" = true)
    (kisqtold : PySem.W.keepIn K (.ref fisqtold) = true)
    (aisqalone : PySem.W.nsIn K mainGlobals "is_alone" = some (some (.ref fisqalone)))
    (lisqalone : K.lookup fisqalone = some ⟨ocisqalone, odisqalone, .func (PySem.W.fnOf "is_alone" "is_alone" (defArgs s_is_alone) (defBody s_is_alone) (defScope s_is_alone) .none kVisqalone dcisqalone pmisqalone anisqalone cdisqalone ctisqalone), slisqalone⟩)
    (cisqalone : PySem.W.codeIn K cdisqalone "is_alone" = true)
    (kisqalone : PySem.W.keepIn K (.ref fisqalone) = true)
    (aqlawqhand : PySem.W.nsIn K mainGlobals "_law_hand" = some (some (.ref fqlawqhand)))
    (lqlawqhand : K.lookup fqlawqhand = some ⟨ocqlawqhand, odqlawqhand, .func (PySem.W.fnOf "_law_hand" "_law_hand" (defArgs s_law_hand) (defBody s_law_hand) (defScope s_law_hand) .none kVqlawqhand dcqlawqhand pmqlawqhand anqlawqhand cdqlawqhand ctqlawqhand), slqlawqhand⟩)
    (cqlawqhand : PySem.W.codeIn K cdqlawqhand "_law_hand" = true)
    (kqlawqhand : PySem.W.keepIn K (.ref fqlawqhand) = true)
    (aqlawqdraw : PySem.W.nsIn K mainGlobals "_law_draw" = some (some (.ref fqlawqdraw)))
    (lqlawqdraw : K.lookup fqlawqdraw = some ⟨ocqlawqdraw, odqlawqdraw, .func (PySem.W.fnOf "_law_draw" "_law_draw" (defArgs s_law_draw) (defBody s_law_draw) (defScope s_law_draw) .none kVqlawqdraw dcqlawqdraw pmqlawqdraw anqlawqdraw cdqlawqdraw ctqlawqdraw), slqlawqdraw⟩)
    (cqlawqdraw : PySem.W.codeIn K cdqlawqdraw "_law_draw" = true)
    (kqlawqdraw : PySem.W.keepIn K (.ref fqlawqdraw) = true)
    (aqlawqcounts : PySem.W.nsIn K mainGlobals "_law_counts" = some (some (.ref fqlawqcounts)))
    (lqlawqcounts : K.lookup fqlawqcounts = some ⟨ocqlawqcounts, odqlawqcounts, .func (PySem.W.fnOf "_law_counts" "_law_counts" (defArgs s_law_counts) (defBody s_law_counts) (defScope s_law_counts) .none kVqlawqcounts dcqlawqcounts pmqlawqcounts anqlawqcounts cdqlawqcounts ctqlawqcounts), slqlawqcounts⟩)
    (cqlawqcounts : PySem.W.codeIn K cdqlawqcounts "_law_counts" = true)
    (kqlawqcounts : PySem.W.keepIn K (.ref fqlawqcounts) = true)
    (aqlawqweb : PySem.W.nsIn K mainGlobals "_law_web" = some (some (.ref fqlawqweb)))
    (lqlawqweb : K.lookup fqlawqweb = some ⟨ocqlawqweb, odqlawqweb, .func (PySem.W.fnOf "_law_web" "_law_web" (defArgs s_law_web) (defBody s_law_web) (defScope s_law_web) .none kVqlawqweb dcqlawqweb pmqlawqweb anqlawqweb cdqlawqweb ctqlawqweb), slqlawqweb⟩)
    (cqlawqweb : PySem.W.codeIn K cdqlawqweb "_law_web" = true)
    (kqlawqweb : PySem.W.keepIn K (.ref fqlawqweb) = true)
    (aqlawqnext : PySem.W.nsIn K mainGlobals "_law_next" = some (some (.ref fqlawqnext)))
    (lqlawqnext : K.lookup fqlawqnext = some ⟨ocqlawqnext, odqlawqnext, .func (PySem.W.fnOf "_law_next" "_law_next" (defArgs s_law_next) (defBody s_law_next) (defScope s_law_next) .none kVqlawqnext dcqlawqnext pmqlawqnext anqlawqnext cdqlawqnext ctqlawqnext), slqlawqnext⟩)
    (cqlawqnext : PySem.W.codeIn K cdqlawqnext "_law_next" = true)
    (kqlawqnext : PySem.W.keepIn K (.ref fqlawqnext) = true)
    (aqlawqway : PySem.W.nsIn K mainGlobals "_law_way" = some (some (.ref fqlawqway)))
    (lqlawqway : K.lookup fqlawqway = some ⟨ocqlawqway, odqlawqway, .func (PySem.W.fnOf "_law_way" "_law_way" (defArgs s_law_way) (defBody s_law_way) (defScope s_law_way) .none kVqlawqway dcqlawqway pmqlawqway anqlawqway cdqlawqway ctqlawqway), slqlawqway⟩)
    (cqlawqway : PySem.W.codeIn K cdqlawqway "_law_way" = true)
    (kqlawqway : PySem.W.keepIn K (.ref fqlawqway) = true)
    (aqlawqletters : PySem.W.nsIn K mainGlobals "_law_letters" = some (some (.ref fqlawqletters)))
    (lqlawqletters : K.lookup fqlawqletters = some ⟨ocqlawqletters, odqlawqletters, .func (PySem.W.fnOf "_law_letters" "_law_letters" (defArgs s_law_letters) (defBody s_law_letters) (defScope s_law_letters) .none kVqlawqletters dcqlawqletters pmqlawqletters anqlawqletters cdqlawqletters ctqlawqletters), slqlawqletters⟩)
    (cqlawqletters : PySem.W.codeIn K cdqlawqletters "_law_letters" = true)
    (kqlawqletters : PySem.W.keepIn K (.ref fqlawqletters) = true)
    (aqlawqready : PySem.W.nsIn K mainGlobals "_law_ready" = some (some (.ref fqlawqready)))
    (lqlawqready : K.lookup fqlawqready = some ⟨ocqlawqready, odqlawqready, .func (PySem.W.fnOf "_law_ready" "_law_ready" (defArgs s_law_ready) (defBody s_law_ready) (defScope s_law_ready) .none kVqlawqready dcqlawqready pmqlawqready anqlawqready cdqlawqready ctqlawqready), slqlawqready⟩)
    (cqlawqready : PySem.W.codeIn K cdqlawqready "_law_ready" = true)
    (kqlawqready : PySem.W.keepIn K (.ref fqlawqready) = true)
    (aqlawqhours : PySem.W.nsIn K mainGlobals "_law_hours" = some (some (.ref fqlawqhours)))
    (lqlawqhours : K.lookup fqlawqhours = some ⟨ocqlawqhours, odqlawqhours, .func (PySem.W.fnOf "_law_hours" "_law_hours" (defArgs s_law_hours) (defBody s_law_hours) (defScope s_law_hours) .none kVqlawqhours dcqlawqhours pmqlawqhours anqlawqhours cdqlawqhours ctqlawqhours), slqlawqhours⟩)
    (cqlawqhours : PySem.W.codeIn K cdqlawqhours "_law_hours" = true)
    (kqlawqhours : PySem.W.keepIn K (.ref fqlawqhours) = true)
    (aqlawqlot : PySem.W.nsIn K mainGlobals "_law_lot" = some (some (.ref fqlawqlot)))
    (lqlawqlot : K.lookup fqlawqlot = some ⟨ocqlawqlot, odqlawqlot, .func (PySem.W.fnOf "_law_lot" "_law_lot" (defArgs s_law_lot) (defBody s_law_lot) (defScope s_law_lot) .none kVqlawqlot dcqlawqlot pmqlawqlot anqlawqlot cdqlawqlot ctqlawqlot), slqlawqlot⟩)
    (cqlawqlot : PySem.W.codeIn K cdqlawqlot "_law_lot" = true)
    (kqlawqlot : PySem.W.keepIn K (.ref fqlawqlot) = true)
    (aqlawqmade : PySem.W.nsIn K mainGlobals "_law_made" = some (some (.ref fqlawqmade)))
    (lqlawqmade : K.lookup fqlawqmade = some ⟨ocqlawqmade, odqlawqmade, .func (PySem.W.fnOf "_law_made" "_law_made" (defArgs s_law_made) (defBody s_law_made) (defScope s_law_made) .none kVqlawqmade dcqlawqmade pmqlawqmade anqlawqmade cdqlawqmade ctqlawqmade), slqlawqmade⟩)
    (cqlawqmade : PySem.W.codeIn K cdqlawqmade "_law_made" = true)
    (kqlawqmade : PySem.W.keepIn K (.ref fqlawqmade) = true)
    (aqlawqday : PySem.W.nsIn K mainGlobals "_law_day" = some (some (.ref fqlawqday)))
    (lqlawqday : K.lookup fqlawqday = some ⟨ocqlawqday, odqlawqday, .func (PySem.W.fnOf "_law_day" "_law_day" (defArgs s_law_day) (defBody s_law_day) (defScope s_law_day) .none kVqlawqday dcqlawqday pmqlawqday anqlawqday cdqlawqday ctqlawqday), slqlawqday⟩)
    (cqlawqday : PySem.W.codeIn K cdqlawqday "_law_day" = true)
    (kqlawqday : PySem.W.keepIn K (.ref fqlawqday) = true)
    (aqlawqpassings : PySem.W.nsIn K mainGlobals "_law_passings" = some (some (.ref fqlawqpassings)))
    (lqlawqpassings : K.lookup fqlawqpassings = some ⟨ocqlawqpassings, odqlawqpassings, .func (PySem.W.fnOf "_law_passings" "_law_passings" (defArgs s_law_passings) (defBody s_law_passings) (defScope s_law_passings) .none kVqlawqpassings dcqlawqpassings pmqlawqpassings anqlawqpassings cdqlawqpassings ctqlawqpassings), slqlawqpassings⟩)
    (cqlawqpassings : PySem.W.codeIn K cdqlawqpassings "_law_passings" = true)
    (kqlawqpassings : PySem.W.keepIn K (.ref fqlawqpassings) = true)
    (aqlawqroadqfits : PySem.W.nsIn K mainGlobals "_law_road_fits" = some (some (.ref fqlawqroadqfits)))
    (lqlawqroadqfits : K.lookup fqlawqroadqfits = some ⟨ocqlawqroadqfits, odqlawqroadqfits, .func (PySem.W.fnOf "_law_road_fits" "_law_road_fits" (defArgs s_law_road_fits) (defBody s_law_road_fits) (defScope s_law_road_fits) .none kVqlawqroadqfits dcqlawqroadqfits pmqlawqroadqfits anqlawqroadqfits cdqlawqroadqfits ctqlawqroadqfits), slqlawqroadqfits⟩)
    (cqlawqroadqfits : PySem.W.codeIn K cdqlawqroadqfits "_law_road_fits" = true)
    (kqlawqroadqfits : PySem.W.keepIn K (.ref fqlawqroadqfits) = true)
    (aqlawqless : PySem.W.nsIn K mainGlobals "_law_less" = some (some (.ref fqlawqless)))
    (lqlawqless : K.lookup fqlawqless = some ⟨ocqlawqless, odqlawqless, .func (PySem.W.fnOf "_law_less" "_law_less" (defArgs s_law_less) (defBody s_law_less) (defScope s_law_less) .none kVqlawqless dcqlawqless pmqlawqless anqlawqless cdqlawqless ctqlawqless), slqlawqless⟩)
    (cqlawqless : PySem.W.codeIn K cdqlawqless "_law_less" = true)
    (kqlawqless : PySem.W.keepIn K (.ref fqlawqless) = true)
    (alaw : PySem.W.nsIn K mainGlobals "law" = some (some (.ref flaw)))
    (llaw : K.lookup flaw = some ⟨oclaw, odlaw, .func (PySem.W.fnOf "law" "law" (defArgs s_law) (defBody s_law) (defScope s_law) .none kVlaw dclaw pmlaw anlaw cdlaw ctlaw), sllaw⟩)
    (claw : PySem.W.codeIn K cdlaw "law" = true)
    (klaw : PySem.W.keepIn K (.ref flaw) = true)
    (aMOSTqHOUSES : PySem.W.nsIn K mainGlobals "MOST_HOUSES" = some (some (.int 12 tMOSTqHOUSES)))
    (aMOSTqROADS : PySem.W.nsIn K mainGlobals "MOST_ROADS" = some (some (.int 24 tMOSTqROADS)))
    (aMOSTqROOMS : PySem.W.nsIn K mainGlobals "MOST_ROOMS" = some (some (.int 3 tMOSTqROOMS)))
    (aLONGESTqTIME : PySem.W.nsIn K mainGlobals "LONGEST_TIME" = some (some (.int 3 tLONGESTqTIME)))
    (aLONGESTqWAY : PySem.W.nsIn K mainGlobals "LONGEST_WAY" = some (some (.int 8 tLONGESTqWAY)))
    (aMOSTqLETTERS : PySem.W.nsIn K mainGlobals "MOST_LETTERS" = some (some (.int 60 tMOSTqLETTERS)))
    (aLASTqTICK : PySem.W.nsIn K mainGlobals "LAST_TICK" = some (some (.int 1000000 tLASTqTICK)))
    (aSORTS : PySem.W.nsIn K mainGlobals "SORTS" = some (some (.ref SSORTS)))
    (lSORTS : K.lookup SSORTS = some ⟨.type "tuple", ddSORTS, .seq #[.str "hours" tSORTS0, .str "turns" tSORTS1] nSORTS, slSORTS⟩)
    (aWWeb : PySem.W.nsIn K mainGlobals "Web" = some (some (.ref CWWeb)))
    (iWWeb : PySem.W.findIn K (.ref CWWeb) "__init__" = some (some (.ref fWWeb)))
    (yWWeb : PySem.W.isFn K (.ref fWWeb) = true)
    (lWWeb : K.lookup fWWeb = some ⟨ocWWeb, odWWeb, .func (PySem.W.fnOf "__init__" "Web.__init__" (defArgs s_Web___init) (defBody s_Web___init) (defScope s_Web___init) .none kVWWeb dcWWeb pmWWeb anWWeb cdWWeb ctWWeb), slWWeb⟩)
    (cWWeb : PySem.W.codeIn K cdWWeb "Web.__init__" = true)
    (kWWeb : PySem.W.keepIn K (.ref fWWeb) = true)
    (pgWWeb : PySem.W.plainGet K CWWeb Str.empty = true)
    (hdWWeb : PySem.W.hasDictIn K CWWeb = true)
    (poWWeb : PySem.W.plainOver K CWWeb = true)
    (saWWeb : PySem.W.findIn K (.ref CWWeb) "__setattr__" = some (some (.builtin "object.__setattr__")))
    (mkWWeb : PySem.W.makesIn K CWWeb = true)
    (kcWWeb : PySem.W.keepIn K (.ref CWWeb) = true)
    (naWWebhouses : PySem.W.findIn K (.ref CWWeb) "houses" = some none)
    (naWWebroads : PySem.W.findIn K (.ref CWWeb) "roads" = some none)
    (naWWebrooms : PySem.W.findIn K (.ref CWWeb) "rooms" = some none)
    (naWWebtimes : PySem.W.findIn K (.ref CWWeb) "times" = some none)
    (aWDay : PySem.W.nsIn K mainGlobals "Day" = some (some (.ref CWDay)))
    (iWDay : PySem.W.findIn K (.ref CWDay) "__init__" = some (some (.ref fWDay)))
    (yWDay : PySem.W.isFn K (.ref fWDay) = true)
    (lWDay : K.lookup fWDay = some ⟨ocWDay, odWDay, .func (PySem.W.fnOf "__init__" "Day.__init__" (defArgs s_Day___init) (defBody s_Day___init) (defScope s_Day___init) .none kVWDay dcWDay pmWDay anWDay cdWDay ctWDay), slWDay⟩)
    (cWDay : PySem.W.codeIn K cdWDay "Day.__init__" = true)
    (kWDay : PySem.W.keepIn K (.ref fWDay) = true)
    (pgWDay : PySem.W.plainGet K CWDay Str.empty = true)
    (hdWDay : PySem.W.hasDictIn K CWDay = true)
    (poWDay : PySem.W.plainOver K CWDay = true)
    (saWDay : PySem.W.findIn K (.ref CWDay) "__setattr__" = some (some (.builtin "object.__setattr__")))
    (mkWDay : PySem.W.makesIn K CWDay = true)
    (kcWDay : PySem.W.keepIn K (.ref CWDay) = true)
    (naWDayweb : PySem.W.findIn K (.ref CWDay) "web" = some none)
    (naWDayletters : PySem.W.findIn K (.ref CWDay) "letters" = some none)
    (naWDayhours : PySem.W.findIn K (.ref CWDay) "hours" = some none)
    (iQWeb : PySem.W.findIn K (.ref CWWeb) "__eq__" = some (some (.ref fQWeb)))
    (yQWeb : PySem.W.isFn K (.ref fQWeb) = true)
    (lQWeb : K.lookup fQWeb = some ⟨ocQWeb, odQWeb, .func (PySem.W.fnOf "__eq__" "Web.__eq__" (defArgs s_Web___eq) (defBody s_Web___eq) (defScope s_Web___eq) .none kVQWeb dcQWeb pmQWeb anQWeb cdQWeb ctQWeb), slQWeb⟩)
    (cQWeb : PySem.W.codeIn K cdQWeb "Web.__eq__" = true)
    (kQWeb : PySem.W.keepIn K (.ref fQWeb) = true)
    (kiQWeb : PySem.W.kitOne K (.ref CWWeb) (.ref CWWeb) = some true)
    (haQWeb : PySem.W.findIn K (.ref CWWeb) "__class__" = some (some (.builtin "object.__class__")))
    (hmQWeb : PySem.W.mroIn K CWWeb (.type "object") = some true)
    (neQWeb : PySem.W.findIn K (.ref CWWeb) "__ne__" = some (some (.builtin "object.__ne__")))
    (sbQWeb : PySem.W.subIn K (.ref CWWeb) (.type "object") = some true)
    (nfQWebNoneType : PySem.W.subIn K (.type "NoneType") (.ref CWWeb) = some false)
    (kfQWebNoneType : PySem.W.kitOne K (.type "NoneType") (.ref CWWeb) = some false)
    (nfQWebint : PySem.W.subIn K (.type "int") (.ref CWWeb) = some false)
    (kfQWebint : PySem.W.kitOne K (.type "int") (.ref CWWeb) = some false)
    (nfQWebbool : PySem.W.subIn K (.type "bool") (.ref CWWeb) = some false)
    (kfQWebbool : PySem.W.kitOne K (.type "bool") (.ref CWWeb) = some false)
    (nfQWebstr : PySem.W.subIn K (.type "str") (.ref CWWeb) = some false)
    (kfQWebstr : PySem.W.kitOne K (.type "str") (.ref CWWeb) = some false)
    (nfQWebtuple : PySem.W.subIn K (.type "tuple") (.ref CWWeb) = some false)
    (kfQWebtuple : PySem.W.kitOne K (.type "tuple") (.ref CWWeb) = some false)
    (nfQWeblist : PySem.W.subIn K (.type "list") (.ref CWWeb) = some false)
    (kfQWeblist : PySem.W.kitOne K (.type "list") (.ref CWWeb) = some false)
    (nfQWebdict : PySem.W.subIn K (.type "dict") (.ref CWWeb) = some false)
    (kfQWebdict : PySem.W.kitOne K (.type "dict") (.ref CWWeb) = some false)
    (hnO : PySem.W.specialIn K (.builtin "object.__class__") "__get__" = some (some (.builtin "getset_descriptor.__get__")))
    (htO : PySem.W.takesIn K (.builtin "object.__class__") = some true)
    (aXBadWeb : PySem.W.nsIn K mainGlobals "BadWeb" = some (some (.ref CXBadWeb)))
    (xXBadWeb : K.lookup CXBadWeb = some (excClassObj nmXBadWeb qnXBadWeb CXBadWeb NXBadWeb bsXBadWeb bmXBadWeb true snXBadWeb subXBadWeb abXBadWeb colXBadWeb ddXBadWeb m0XBadWeb m1XBadWeb m2XBadWeb m3XBadWeb m5XBadWeb "ValueError.__new__"))
    (bmXBadWebo : PySem.HandSPX.refsVE bmXBadWeb = true)
    (saXBadWeb : PySem.W.findIn K (.ref CXBadWeb) "__setattr__" = some (some (.builtin "object.__setattr__")))
    (gaXBadWeb : PySem.W.findIn K (.ref CXBadWeb) "__getattribute__" = some (some (.builtin "BaseException.__getattribute__")))
    (ggXBadWeb : PySem.W.findIn K (.ref CXBadWeb) "__getattr__" = some none)
    (iXBadWeb : PySem.W.findIn K (.ref CXBadWeb) "__init__" = some (some (.ref fXBadWeb)))
    (yXBadWeb : PySem.W.typeIn K (.ref fXBadWeb) = some (.type "function"))
    (lXBadWeb : K.lookup fXBadWeb = some ⟨ocXBadWeb, odXBadWeb, .func (PySem.W.fnOf "__init__" "BadWeb.__init__" (defArgs s_BadWeb___init) (defBody s_BadWeb___init) (defScope s_BadWeb___init) .none kVXBadWeb dcXBadWeb pmXBadWeb anXBadWeb cdXBadWeb ctXBadWeb), slXBadWeb⟩)
    (cXBadWeb : PySem.W.codeIn K cdXBadWeb "BadWeb.__init__" = true)
    (kXBadWeb : PySem.W.keepIn K (.ref fXBadWeb) = true)
    (kcXBadWeb : PySem.W.keepIn K (.ref CXBadWeb) = true)
    (exXBadWeb : PySem.W.subIn K (.ref CXBadWeb) (.type "BaseException") = some true)
    (tyXBadWeb : PySem.W.typeIn K (.ref CXBadWeb) = some (.type "type"))
    (hdXBadWeb : PySem.W.hasDictIn K CXBadWeb = true)
    (icXBadWeb : PySem.W.isClsIn K CXBadWeb = true)
    (suXBadWeb : PySem.W.subIn K (.ref CXBadWeb) (.ref CXBadWeb) = some true)
    (naXBadWebpart : PySem.W.findIn K (.ref CXBadWeb) "part" = some none)
    (aXBadDay : PySem.W.nsIn K mainGlobals "BadDay" = some (some (.ref CXBadDay)))
    (xXBadDay : K.lookup CXBadDay = some (excClassObj nmXBadDay qnXBadDay CXBadDay NXBadDay bsXBadDay bmXBadDay true snXBadDay subXBadDay abXBadDay colXBadDay ddXBadDay m0XBadDay m1XBadDay m2XBadDay m3XBadDay m5XBadDay "ValueError.__new__"))
    (bmXBadDayo : PySem.HandSPX.refsVE bmXBadDay = true)
    (saXBadDay : PySem.W.findIn K (.ref CXBadDay) "__setattr__" = some (some (.builtin "object.__setattr__")))
    (gaXBadDay : PySem.W.findIn K (.ref CXBadDay) "__getattribute__" = some (some (.builtin "BaseException.__getattribute__")))
    (ggXBadDay : PySem.W.findIn K (.ref CXBadDay) "__getattr__" = some none)
    (iXBadDay : PySem.W.findIn K (.ref CXBadDay) "__init__" = some (some (.ref fXBadDay)))
    (yXBadDay : PySem.W.typeIn K (.ref fXBadDay) = some (.type "function"))
    (lXBadDay : K.lookup fXBadDay = some ⟨ocXBadDay, odXBadDay, .func (PySem.W.fnOf "__init__" "BadDay.__init__" (defArgs s_BadDay___init) (defBody s_BadDay___init) (defScope s_BadDay___init) .none kVXBadDay dcXBadDay pmXBadDay anXBadDay cdXBadDay ctXBadDay), slXBadDay⟩)
    (cXBadDay : PySem.W.codeIn K cdXBadDay "BadDay.__init__" = true)
    (kXBadDay : PySem.W.keepIn K (.ref fXBadDay) = true)
    (kcXBadDay : PySem.W.keepIn K (.ref CXBadDay) = true)
    (exXBadDay : PySem.W.subIn K (.ref CXBadDay) (.type "BaseException") = some true)
    (tyXBadDay : PySem.W.typeIn K (.ref CXBadDay) = some (.type "type"))
    (hdXBadDay : PySem.W.hasDictIn K CXBadDay = true)
    (icXBadDay : PySem.W.isClsIn K CXBadDay = true)
    (suXBadDay : PySem.W.subIn K (.ref CXBadDay) (.ref CXBadDay) = some true)
    (naXBadDaypart : PySem.W.findIn K (.ref CXBadDay) "part" = some none)
    (aXNoNumber : PySem.W.nsIn K mainGlobals "NoNumber" = some (some (.ref CXNoNumber)))
    (xXNoNumber : K.lookup CXNoNumber = some (excClassObj nmXNoNumber qnXNoNumber CXNoNumber NXNoNumber bsXNoNumber bmXNoNumber true snXNoNumber subXNoNumber abXNoNumber colXNoNumber ddXNoNumber m0XNoNumber m1XNoNumber m2XNoNumber m3XNoNumber m5XNoNumber "ValueError.__new__"))
    (bmXNoNumbero : PySem.HandSPX.refsVE bmXNoNumber = true)
    (saXNoNumber : PySem.W.findIn K (.ref CXNoNumber) "__setattr__" = some (some (.builtin "object.__setattr__")))
    (gaXNoNumber : PySem.W.findIn K (.ref CXNoNumber) "__getattribute__" = some (some (.builtin "BaseException.__getattribute__")))
    (ggXNoNumber : PySem.W.findIn K (.ref CXNoNumber) "__getattr__" = some none)
    (iXNoNumber : PySem.W.findIn K (.ref CXNoNumber) "__init__" = some (some (.ref fXNoNumber)))
    (yXNoNumber : PySem.W.typeIn K (.ref fXNoNumber) = some (.type "function"))
    (lXNoNumber : K.lookup fXNoNumber = some ⟨ocXNoNumber, odXNoNumber, .func (PySem.W.fnOf "__init__" "NoNumber.__init__" (defArgs s_NoNumber___init) (defBody s_NoNumber___init) (defScope s_NoNumber___init) .none kVXNoNumber dcXNoNumber pmXNoNumber anXNoNumber cdXNoNumber ctXNoNumber), slXNoNumber⟩)
    (cXNoNumber : PySem.W.codeIn K cdXNoNumber "NoNumber.__init__" = true)
    (kXNoNumber : PySem.W.keepIn K (.ref fXNoNumber) = true)
    (kcXNoNumber : PySem.W.keepIn K (.ref CXNoNumber) = true)
    (exXNoNumber : PySem.W.subIn K (.ref CXNoNumber) (.type "BaseException") = some true)
    (tyXNoNumber : PySem.W.typeIn K (.ref CXNoNumber) = some (.type "type"))
    (hdXNoNumber : PySem.W.hasDictIn K CXNoNumber = true)
    (icXNoNumber : PySem.W.isClsIn K CXNoNumber = true)
    (suXNoNumber : PySem.W.subIn K (.ref CXNoNumber) (.ref CXNoNumber) = some true)
    (aXOtherWeb : PySem.W.nsIn K mainGlobals "OtherWeb" = some (some (.ref CXOtherWeb)))
    (xXOtherWeb : K.lookup CXOtherWeb = some (excClassObj nmXOtherWeb qnXOtherWeb CXOtherWeb NXOtherWeb bsXOtherWeb bmXOtherWeb true snXOtherWeb subXOtherWeb abXOtherWeb colXOtherWeb ddXOtherWeb m0XOtherWeb m1XOtherWeb m2XOtherWeb m3XOtherWeb m5XOtherWeb "ValueError.__new__"))
    (bmXOtherWebo : PySem.HandSPX.refsVE bmXOtherWeb = true)
    (saXOtherWeb : PySem.W.findIn K (.ref CXOtherWeb) "__setattr__" = some (some (.builtin "object.__setattr__")))
    (gaXOtherWeb : PySem.W.findIn K (.ref CXOtherWeb) "__getattribute__" = some (some (.builtin "BaseException.__getattribute__")))
    (ggXOtherWeb : PySem.W.findIn K (.ref CXOtherWeb) "__getattr__" = some none)
    (iXOtherWeb : PySem.W.findIn K (.ref CXOtherWeb) "__init__" = some (some (.ref fXOtherWeb)))
    (yXOtherWeb : PySem.W.typeIn K (.ref fXOtherWeb) = some (.type "function"))
    (lXOtherWeb : K.lookup fXOtherWeb = some ⟨ocXOtherWeb, odXOtherWeb, .func (PySem.W.fnOf "__init__" "OtherWeb.__init__" (defArgs s_OtherWeb___init) (defBody s_OtherWeb___init) (defScope s_OtherWeb___init) .none kVXOtherWeb dcXOtherWeb pmXOtherWeb anXOtherWeb cdXOtherWeb ctXOtherWeb), slXOtherWeb⟩)
    (cXOtherWeb : PySem.W.codeIn K cdXOtherWeb "OtherWeb.__init__" = true)
    (kXOtherWeb : PySem.W.keepIn K (.ref fXOtherWeb) = true)
    (kcXOtherWeb : PySem.W.keepIn K (.ref CXOtherWeb) = true)
    (exXOtherWeb : PySem.W.subIn K (.ref CXOtherWeb) (.type "BaseException") = some true)
    (tyXOtherWeb : PySem.W.typeIn K (.ref CXOtherWeb) = some (.type "type"))
    (hdXOtherWeb : PySem.W.hasDictIn K CXOtherWeb = true)
    (icXOtherWeb : PySem.W.isClsIn K CXOtherWeb = true)
    (suXOtherWeb : PySem.W.subIn K (.ref CXOtherWeb) (.ref CXOtherWeb) = some true)
    (aXNoLot : PySem.W.nsIn K mainGlobals "NoLot" = some (some (.ref CXNoLot)))
    (xXNoLot : K.lookup CXNoLot = some (excClassObj nmXNoLot qnXNoLot CXNoLot NXNoLot bsXNoLot bmXNoLot true snXNoLot subXNoLot abXNoLot colXNoLot ddXNoLot m0XNoLot m1XNoLot m2XNoLot m3XNoLot m5XNoLot "ValueError.__new__"))
    (bmXNoLoto : PySem.HandSPX.refsVE bmXNoLot = true)
    (saXNoLot : PySem.W.findIn K (.ref CXNoLot) "__setattr__" = some (some (.builtin "object.__setattr__")))
    (gaXNoLot : PySem.W.findIn K (.ref CXNoLot) "__getattribute__" = some (some (.builtin "BaseException.__getattribute__")))
    (ggXNoLot : PySem.W.findIn K (.ref CXNoLot) "__getattr__" = some none)
    (iXNoLot : PySem.W.findIn K (.ref CXNoLot) "__init__" = some (some (.ref fXNoLot)))
    (yXNoLot : PySem.W.typeIn K (.ref fXNoLot) = some (.type "function"))
    (lXNoLot : K.lookup fXNoLot = some ⟨ocXNoLot, odXNoLot, .func (PySem.W.fnOf "__init__" "NoLot.__init__" (defArgs s_NoLot___init) (defBody s_NoLot___init) (defScope s_NoLot___init) .none kVXNoLot dcXNoLot pmXNoLot anXNoLot cdXNoLot ctXNoLot), slXNoLot⟩)
    (cXNoLot : PySem.W.codeIn K cdXNoLot "NoLot.__init__" = true)
    (kXNoLot : PySem.W.keepIn K (.ref fXNoLot) = true)
    (kcXNoLot : PySem.W.keepIn K (.ref CXNoLot) = true)
    (exXNoLot : PySem.W.subIn K (.ref CXNoLot) (.type "BaseException") = some true)
    (tyXNoLot : PySem.W.typeIn K (.ref CXNoLot) = some (.type "type"))
    (hdXNoLot : PySem.W.hasDictIn K CXNoLot = true)
    (icXNoLot : PySem.W.isClsIn K CXNoLot = true)
    (suXNoLot : PySem.W.subIn K (.ref CXNoLot) (.ref CXNoLot) = some true)
    (aXNoSort : PySem.W.nsIn K mainGlobals "NoSort" = some (some (.ref CXNoSort)))
    (xXNoSort : K.lookup CXNoSort = some (excClassObj nmXNoSort qnXNoSort CXNoSort NXNoSort bsXNoSort bmXNoSort true snXNoSort subXNoSort abXNoSort colXNoSort ddXNoSort m0XNoSort m1XNoSort m2XNoSort m3XNoSort m5XNoSort "ValueError.__new__"))
    (bmXNoSorto : PySem.HandSPX.refsVE bmXNoSort = true)
    (saXNoSort : PySem.W.findIn K (.ref CXNoSort) "__setattr__" = some (some (.builtin "object.__setattr__")))
    (gaXNoSort : PySem.W.findIn K (.ref CXNoSort) "__getattribute__" = some (some (.builtin "BaseException.__getattribute__")))
    (ggXNoSort : PySem.W.findIn K (.ref CXNoSort) "__getattr__" = some none)
    (iXNoSort : PySem.W.findIn K (.ref CXNoSort) "__init__" = some (some (.ref fXNoSort)))
    (yXNoSort : PySem.W.typeIn K (.ref fXNoSort) = some (.type "function"))
    (lXNoSort : K.lookup fXNoSort = some ⟨ocXNoSort, odXNoSort, .func (PySem.W.fnOf "__init__" "NoSort.__init__" (defArgs s_NoSort___init) (defBody s_NoSort___init) (defScope s_NoSort___init) .none kVXNoSort dcXNoSort pmXNoSort anXNoSort cdXNoSort ctXNoSort), slXNoSort⟩)
    (cXNoSort : PySem.W.codeIn K cdXNoSort "NoSort.__init__" = true)
    (kXNoSort : PySem.W.keepIn K (.ref fXNoSort) = true)
    (kcXNoSort : PySem.W.keepIn K (.ref CXNoSort) = true)
    (exXNoSort : PySem.W.subIn K (.ref CXNoSort) (.type "BaseException") = some true)
    (tyXNoSort : PySem.W.typeIn K (.ref CXNoSort) = some (.type "type"))
    (hdXNoSort : PySem.W.hasDictIn K CXNoSort = true)
    (icXNoSort : PySem.W.isClsIn K CXNoSort = true)
    (suXNoSort : PySem.W.subIn K (.ref CXNoSort) (.ref CXNoSort) = some true)
    (anqisinstance : PySem.W.nsIn K mainGlobals "isinstance" = some none)
    (anqint : PySem.W.nsIn K mainGlobals "int" = some none)
    (anqbool : PySem.W.nsIn K mainGlobals "bool" = some none)
    (anqstr : PySem.W.nsIn K mainGlobals "str" = some none)
    (anqtuple : PySem.W.nsIn K mainGlobals "tuple" = some none)
    (anqlist : PySem.W.nsIn K mainGlobals "list" = some none)
    (anqlen : PySem.W.nsIn K mainGlobals "len" = some none)
    (anqall : PySem.W.nsIn K mainGlobals "all" = some none)
    (anqany : PySem.W.nsIn K mainGlobals "any" = some none)
    (anqabs : PySem.W.nsIn K mainGlobals "abs" = some none)
    (anqrange : PySem.W.nsIn K mainGlobals "range" = some none)
    (anqzip : PySem.W.nsIn K mainGlobals "zip" = some none)
    (anqenumerate : PySem.W.nsIn K mainGlobals "enumerate" = some none)
    (anqsorted : PySem.W.nsIn K mainGlobals "sorted" = some none)
    (anqsum : PySem.W.nsIn K mainGlobals "sum" = some none) :
    ∃ T : Tx K mg, ∀ (s : Shared) (v : Value), BindsTo s T.law.fd ⟨[v], []⟩ [("_law_script", v)] := by
  refine ⟨{
    is_integer := ⟨fisqinteger, _, fun_mk (st := s_is_integer) lisqinteger cisqinteger kisqinteger, PySem.W.mg_of X G aisqinteger, (fun_mk (st := s_is_integer) lisqinteger cisqinteger kisqinteger).binds (fun _ _ _ _ _ _ us hl => match us, hl with | [_], _ => rfl)⟩
    is_from := ⟨fisqfrom, _, fun_mk (st := s_is_from) lisqfrom cisqfrom kisqfrom, PySem.W.mg_of X G aisqfrom, (fun_mk (st := s_is_from) lisqfrom cisqfrom kisqfrom).binds (fun _ _ _ _ _ _ us hl => match us, hl with | [_, _], _ => rfl)⟩
    is_between := ⟨fisqbetween, _, fun_mk (st := s_is_between) lisqbetween cisqbetween kisqbetween, PySem.W.mg_of X G aisqbetween, (fun_mk (st := s_is_between) lisqbetween cisqbetween kisqbetween).binds (fun _ _ _ _ _ _ us hl => match us, hl with | [_, _, _], _ => rfl)⟩
    is_tuple := ⟨fisqtuple, _, fun_mk (st := s_is_tuple) lisqtuple cisqtuple kisqtuple, PySem.W.mg_of X G aisqtuple, (fun_mk (st := s_is_tuple) lisqtuple cisqtuple kisqtuple).binds (fun _ _ _ _ _ _ us hl => match us, hl with | [_, _], _ => rfl)⟩
    is_pair := ⟨fisqpair, _, fun_mk (st := s_is_pair) lisqpair cisqpair kisqpair, PySem.W.mg_of X G aisqpair, (fun_mk (st := s_is_pair) lisqpair cisqpair kisqpair).binds (fun _ _ _ _ _ _ us hl => match us, hl with | [_], _ => rfl)⟩
    are_integers := ⟨fareqintegers, _, fun_mk (st := s_are_integers) lareqintegers careqintegers kareqintegers, PySem.W.mg_of X G aareqintegers, (fun_mk (st := s_are_integers) lareqintegers careqintegers kareqintegers).binds (fun _ _ _ _ _ _ us hl => match us, hl with | [_, _], _ => rfl)⟩
    are_between := ⟨fareqbetween, _, fun_mk (st := s_are_between) lareqbetween careqbetween kareqbetween, PySem.W.mg_of X G aareqbetween, (fun_mk (st := s_are_between) lareqbetween careqbetween kareqbetween).binds (fun _ _ _ _ _ _ us hl => match us, hl with | [_, _, _, _], _ => rfl)⟩
    are_roads := ⟨fareqroads, _, fun_mk (st := s_are_roads) lareqroads careqroads kareqroads, PySem.W.mg_of X G aareqroads, (fun_mk (st := s_are_roads) lareqroads careqroads kareqroads).binds (fun _ _ _ _ _ _ us hl => match us, hl with | [_, _], _ => rfl)⟩
    is_begin_and_end := ⟨fisqbeginqandqend, _, fun_mk (st := s_is_begin_and_end) lisqbeginqandqend cisqbeginqandqend kisqbeginqandqend, PySem.W.mg_of X G aisqbeginqandqend, (fun_mk (st := s_is_begin_and_end) lisqbeginqandqend cisqbeginqandqend kisqbeginqandqend).binds (fun _ _ _ _ _ _ us hl => match us, hl with | [_, _], _ => rfl)⟩
    is_road := ⟨fisqroad, _, fun_mk (st := s_is_road) lisqroad cisqroad kisqroad, PySem.W.mg_of X G aisqroad, (fun_mk (st := s_is_road) lisqroad cisqroad kisqroad).binds (fun _ _ _ _ _ _ us hl => match us, hl with | [_, _], _ => rfl)⟩
    is_way := ⟨fisqway, _, fun_mk (st := s_is_way) lisqway cisqway kisqway, PySem.W.mg_of X G aisqway, (fun_mk (st := s_is_way) lisqway cisqway kisqway).binds (fun _ _ _ _ _ _ us hl => match us, hl with | [_, _], _ => rfl)⟩
    is_lot := ⟨fisqlot, _, fun_mk (st := s_is_lot) lisqlot cisqlot kisqlot, PySem.W.mg_of X G aisqlot, (fun_mk (st := s_is_lot) lisqlot cisqlot kisqlot).binds (fun _ _ _ _ _ _ us hl => match us, hl with | [_, _], _ => rfl)⟩
    is_letter := ⟨fisqletter, _, fun_mk (st := s_is_letter) lisqletter cisqletter kisqletter, PySem.W.mg_of X G aisqletter, (fun_mk (st := s_is_letter) lisqletter cisqletter kisqletter).binds (fun _ _ _ _ _ _ us hl => match us, hl with | [_, _], _ => rfl)⟩
    are_letters := ⟨fareqletters, _, fun_mk (st := s_are_letters) lareqletters careqletters kareqletters, PySem.W.mg_of X G aareqletters, (fun_mk (st := s_are_letters) lareqletters careqletters kareqletters).binds (fun _ _ _ _ _ _ us hl => match us, hl with | [_, _], _ => rfl)⟩
    are_hours := ⟨fareqhours, _, fun_mk (st := s_are_hours) lareqhours careqhours kareqhours, PySem.W.mg_of X G aareqhours, (fun_mk (st := s_are_hours) lareqhours careqhours kareqhours).binds (fun _ _ _ _ _ _ us hl => match us, hl with | [_, _], _ => rfl)⟩
    first_ticks := ⟨ffirstqticks, _, fun_mk (st := s_first_ticks) lfirstqticks cfirstqticks kfirstqticks, PySem.W.mg_of X G afirstqticks, (fun_mk (st := s_first_ticks) lfirstqticks cfirstqticks kfirstqticks).binds (fun _ _ _ _ _ _ us hl => match us, hl with | [_, _, _], _ => rfl)⟩
    some_early := ⟨fsomeqearly, _, fun_mk (st := s_some_early) lsomeqearly csomeqearly ksomeqearly, PySem.W.mg_of X G asomeqearly, (fun_mk (st := s_some_early) lsomeqearly csomeqearly ksomeqearly).binds (fun _ _ _ _ _ _ us hl => match us, hl with | [_, _, _], _ => rfl)⟩
    some_full := ⟨fsomeqfull, _, fun_mk (st := s_some_full) lsomeqfull csomeqfull ksomeqfull, PySem.W.mg_of X G asomeqfull, (fun_mk (st := s_some_full) lsomeqfull csomeqfull ksomeqfull).binds (fun _ _ _ _ _ _ us hl => match us, hl with | [_, _, _], _ => rfl)⟩
    day_of_any_size := ⟨fdayqofqanyqsize, _, fun_mk (st := s_day_of_any_size) ldayqofqanyqsize cdayqofqanyqsize kdayqofqanyqsize, PySem.W.mg_of X G adayqofqanyqsize, (fun_mk (st := s_day_of_any_size) ldayqofqanyqsize cdayqofqanyqsize kdayqofqanyqsize).binds (fun _ _ _ _ _ _ us hl => match us, hl with | [_, _, _], _ => rfl)⟩
    shifted := ⟨fshifted, _, fun_mk (st := s_shifted) lshifted cshifted kshifted, PySem.W.mg_of X G ashifted, (fun_mk (st := s_shifted) lshifted cshifted kshifted).binds (fun _ _ _ _ _ _ us hl => match us, hl with | [_, _], _ => rfl)⟩
    laid_over := ⟨flaidqover, _, fun_mk (st := s_laid_over) llaidqover claidqover klaidqover, PySem.W.mg_of X G alaidqover, (fun_mk (st := s_laid_over) llaidqover claidqover klaidqover).binds (fun _ _ _ _ _ _ us hl => match us, hl with | [_, _], _ => rfl)⟩
    is_sort := ⟨fisqsort, _, fun_mk (st := s_is_sort) lisqsort cisqsort kisqsort, PySem.W.mg_of X G aisqsort, (fun_mk (st := s_is_sort) lisqsort cisqsort kisqsort).binds (fun _ _ _ _ _ _ us hl => match us, hl with | [_], _ => rfl)⟩
    check_lot_and_sort := ⟨fcheckqlotqandqsort, _, fun_mk (st := s_check_lot_and_sort) lcheckqlotqandqsort ccheckqlotqandqsort kcheckqlotqandqsort, PySem.W.mg_of X G acheckqlotqandqsort, (fun_mk (st := s_check_lot_and_sort) lcheckqlotqandqsort ccheckqlotqandqsort kcheckqlotqandqsort).binds (fun _ _ _ _ _ _ us hl => match us, hl with | [_, _, _], _ => rfl)⟩
    cards := ⟨fcards, _, fun_mk (st := s_cards) lcards ccards kcards, PySem.W.mg_of X G acards, (fun_mk (st := s_cards) lcards ccards kcards).binds (fun _ _ _ _ _ _ us hl => match us, hl with | [_, _, _], _ => rfl)⟩
    cards_of := ⟨fcardsqof, _, fun_mk (st := s_cards_of) lcardsqof ccardsqof kcardsqof, PySem.W.mg_of X G acardsqof, (fun_mk (st := s_cards_of) lcardsqof ccardsqof kcardsqof).binds (fun _ _ _ _ _ _ us hl => match us, hl with | [_, _, _], _ => rfl)⟩
    told_of := ⟨ftoldqof, _, fun_mk (st := s_told_of) ltoldqof ctoldqof ktoldqof, PySem.W.mg_of X G atoldqof, (fun_mk (st := s_told_of) ltoldqof ctoldqof ktoldqof).binds (fun _ _ _ _ _ _ us hl => match us, hl with | [_, _, _], _ => rfl)⟩
    turns_of := ⟨fturnsqof, _, fun_mk (st := s_turns_of) lturnsqof cturnsqof kturnsqof, PySem.W.mg_of X G aturnsqof, (fun_mk (st := s_turns_of) lturnsqof cturnsqof kturnsqof).binds (fun _ _ _ _ _ _ us hl => match us, hl with | [_], _ => rfl)⟩
    are_cards := ⟨fareqcards, _, fun_mk (st := s_are_cards) lareqcards careqcards kareqcards, PySem.W.mg_of X G aareqcards, (fun_mk (st := s_are_cards) lareqcards careqcards kareqcards).binds (fun _ _ _ _ _ _ us hl => match us, hl with | [_, _, _, _], _ => rfl)⟩
    is_card := ⟨fisqcard, _, fun_mk (st := s_is_card) lisqcard cisqcard kisqcard, PySem.W.mg_of X G aisqcard, (fun_mk (st := s_is_card) lisqcard cisqcard kisqcard).binds (fun _ _ _ _ _ _ us hl => match us, hl with | [_, _, _, _], _ => rfl)⟩
    is_told := ⟨fisqtold, _, fun_mk (st := s_is_told) lisqtold cisqtold kisqtold, PySem.W.mg_of X G aisqtold, (fun_mk (st := s_is_told) lisqtold cisqtold kisqtold).binds (fun _ _ _ _ _ _ us hl => match us, hl with | [_, _, _], _ => rfl)⟩
    is_alone := ⟨fisqalone, _, fun_mk (st := s_is_alone) lisqalone cisqalone kisqalone, PySem.W.mg_of X G aisqalone, (fun_mk (st := s_is_alone) lisqalone cisqalone kisqalone).binds (fun _ _ _ _ _ _ us hl => match us, hl with | [_, _, _, _], _ => rfl)⟩
    _law_hand := ⟨fqlawqhand, _, fun_mk (st := s_law_hand) lqlawqhand cqlawqhand kqlawqhand, PySem.W.mg_of X G aqlawqhand, (fun_mk (st := s_law_hand) lqlawqhand cqlawqhand kqlawqhand).binds (fun _ _ _ _ _ _ us hl => match us, hl with | [_], _ => rfl)⟩
    _law_draw := ⟨fqlawqdraw, _, fun_mk (st := s_law_draw) lqlawqdraw cqlawqdraw kqlawqdraw, PySem.W.mg_of X G aqlawqdraw, (fun_mk (st := s_law_draw) lqlawqdraw cqlawqdraw kqlawqdraw).binds (fun _ _ _ _ _ _ us hl => match us, hl with | [_, _], _ => rfl)⟩
    _law_counts := ⟨fqlawqcounts, _, fun_mk (st := s_law_counts) lqlawqcounts cqlawqcounts kqlawqcounts, PySem.W.mg_of X G aqlawqcounts, (fun_mk (st := s_law_counts) lqlawqcounts cqlawqcounts kqlawqcounts).binds (fun _ _ _ _ _ _ us hl => match us, hl with | [_, _], _ => rfl)⟩
    _law_web := ⟨fqlawqweb, _, fun_mk (st := s_law_web) lqlawqweb cqlawqweb kqlawqweb, PySem.W.mg_of X G aqlawqweb, (fun_mk (st := s_law_web) lqlawqweb cqlawqweb kqlawqweb).binds (fun _ _ _ _ _ _ us hl => match us, hl with | [_, _, _], _ => rfl)⟩
    _law_next := ⟨fqlawqnext, _, fun_mk (st := s_law_next) lqlawqnext cqlawqnext kqlawqnext, PySem.W.mg_of X G aqlawqnext, (fun_mk (st := s_law_next) lqlawqnext cqlawqnext kqlawqnext).binds (fun _ _ _ _ _ _ us hl => match us, hl with | [_, _], _ => rfl)⟩
    _law_way := ⟨fqlawqway, _, fun_mk (st := s_law_way) lqlawqway cqlawqway kqlawqway, PySem.W.mg_of X G aqlawqway, (fun_mk (st := s_law_way) lqlawqway cqlawqway kqlawqway).binds (fun _ _ _ _ _ _ us hl => match us, hl with | [_, _, _], _ => rfl)⟩
    _law_letters := ⟨fqlawqletters, _, fun_mk (st := s_law_letters) lqlawqletters cqlawqletters kqlawqletters, PySem.W.mg_of X G aqlawqletters, (fun_mk (st := s_law_letters) lqlawqletters cqlawqletters kqlawqletters).binds (fun _ _ _ _ _ _ us hl => match us, hl with | [_, _, _, _], _ => rfl)⟩
    _law_ready := ⟨fqlawqready, _, fun_mk (st := s_law_ready) lqlawqready cqlawqready kqlawqready, PySem.W.mg_of X G aqlawqready, (fun_mk (st := s_law_ready) lqlawqready cqlawqready kqlawqready).binds (fun _ _ _ _ _ _ us hl => match us, hl with | [_, _, _], _ => rfl)⟩
    _law_hours := ⟨fqlawqhours, _, fun_mk (st := s_law_hours) lqlawqhours cqlawqhours kqlawqhours, PySem.W.mg_of X G aqlawqhours, (fun_mk (st := s_law_hours) lqlawqhours cqlawqhours kqlawqhours).binds (fun _ _ _ _ _ _ us hl => match us, hl with | [_, _, _], _ => rfl)⟩
    _law_lot := ⟨fqlawqlot, _, fun_mk (st := s_law_lot) lqlawqlot cqlawqlot kqlawqlot, PySem.W.mg_of X G aqlawqlot, (fun_mk (st := s_law_lot) lqlawqlot cqlawqlot kqlawqlot).binds (fun _ _ _ _ _ _ us hl => match us, hl with | [_, _], _ => rfl)⟩
    _law_made := ⟨fqlawqmade, _, fun_mk (st := s_law_made) lqlawqmade cqlawqmade kqlawqmade, PySem.W.mg_of X G aqlawqmade, (fun_mk (st := s_law_made) lqlawqmade cqlawqmade kqlawqmade).binds (fun _ _ _ _ _ _ us hl => match us, hl with | [_], _ => rfl)⟩
    _law_day := ⟨fqlawqday, _, fun_mk (st := s_law_day) lqlawqday cqlawqday kqlawqday, PySem.W.mg_of X G aqlawqday, (fun_mk (st := s_law_day) lqlawqday cqlawqday kqlawqday).binds (fun _ _ _ _ _ _ us hl => match us, hl with | [_, _, _, _, _], _ => rfl)⟩
    _law_passings := ⟨fqlawqpassings, _, fun_mk (st := s_law_passings) lqlawqpassings cqlawqpassings kqlawqpassings, PySem.W.mg_of X G aqlawqpassings, (fun_mk (st := s_law_passings) lqlawqpassings cqlawqpassings kqlawqpassings).binds (fun _ _ _ _ _ _ us hl => match us, hl with | [_, _, _], _ => rfl)⟩
    _law_road_fits := ⟨fqlawqroadqfits, _, fun_mk (st := s_law_road_fits) lqlawqroadqfits cqlawqroadqfits kqlawqroadqfits, PySem.W.mg_of X G aqlawqroadqfits, (fun_mk (st := s_law_road_fits) lqlawqroadqfits cqlawqroadqfits kqlawqroadqfits).binds (fun _ _ _ _ _ _ us hl => match us, hl with | [_, _], _ => rfl)⟩
    _law_less := ⟨fqlawqless, _, fun_mk (st := s_law_less) lqlawqless cqlawqless kqlawqless, PySem.W.mg_of X G aqlawqless, (fun_mk (st := s_law_less) lqlawqless cqlawqless kqlawqless).binds (fun _ _ _ _ _ _ us hl => match us, hl with | [_, _], _ => rfl)⟩
    law := ⟨flaw, _, fun_mk (st := s_law) llaw claw klaw, PySem.W.mg_of X G alaw, (fun_mk (st := s_law) llaw claw klaw).binds (fun _ _ _ _ _ _ us hl => match us, hl with | [_], _ => rfl)⟩
    c_MOST_HOUSES := ⟨_, PySem.W.mg_of X G aMOSTqHOUSES⟩
    c_MOST_ROADS := ⟨_, PySem.W.mg_of X G aMOSTqROADS⟩
    c_MOST_ROOMS := ⟨_, PySem.W.mg_of X G aMOSTqROOMS⟩
    c_LONGEST_TIME := ⟨_, PySem.W.mg_of X G aLONGESTqTIME⟩
    c_LONGEST_WAY := ⟨_, PySem.W.mg_of X G aLONGESTqWAY⟩
    c_MOST_LETTERS := ⟨_, PySem.W.mg_of X G aMOSTqLETTERS⟩
    c_LAST_TICK := ⟨_, PySem.W.mg_of X G aLASTqTICK⟩
    c_SORTS := ⟨SSORTS, PySem.W.mg_of X G aSORTS, fun H => .inr ⟨_, _, _, lSORTS, rfl, rfl, (by show 2 ≤ sizeLine; decide), (.cons ⟨_, rfl⟩ (.cons ⟨_, rfl⟩ .nil))⟩⟩
    Web := ⟨CWWeb, fWWeb, _, fun_mk (st := s_Web___init) lWWeb cWWeb kWWeb, PySem.W.mg_of X G aWWeb, (fun_mk (st := s_Web___init) lWWeb cWWeb kWWeb).binds (fun _ _ _ _ _ _ us hl => match us, hl with | [_, _, _, _, _], _ => rfl), ⟨mkWWeb, iWWeb, yWWeb, kcWWeb⟩, ⟨pgWWeb, hdWWeb, poWWeb, saWWeb⟩, by intro x hx; simp only [List.mem_cons, List.not_mem_nil, or_false] at hx; rcases hx with rfl | rfl | rfl | rfl <;> assumption⟩
    Day := ⟨CWDay, fWDay, _, fun_mk (st := s_Day___init) lWDay cWDay kWDay, PySem.W.mg_of X G aWDay, (fun_mk (st := s_Day___init) lWDay cWDay kWDay).binds (fun _ _ _ _ _ _ us hl => match us, hl with | [_, _, _, _], _ => rfl), ⟨mkWDay, iWDay, yWDay, kcWDay⟩, ⟨pgWDay, hdWDay, poWDay, saWDay⟩, by intro x hx; simp only [List.mem_cons, List.not_mem_nil, or_false] at hx; rcases hx with rfl | rfl | rfl <;> assumption⟩
    e_Web := ⟨fQWeb, _, fun_mk (st := s_Web___eq) lQWeb cQWeb kQWeb, (fun_mk (st := s_Web___eq) lQWeb cQWeb kQWeb).binds (fun _ _ _ _ _ _ us hl => match us, hl with | [_, _], _ => rfl), iQWeb, yQWeb, kiQWeb, haQWeb, hnO, htO, hmQWeb, neQWeb, sbQWeb, ⟨nfQWebNoneType, kfQWebNoneType⟩, ⟨nfQWebint, kfQWebint⟩, ⟨nfQWebbool, kfQWebbool⟩, ⟨nfQWebstr, kfQWebstr⟩, ⟨nfQWebtuple, kfQWebtuple⟩, ⟨nfQWeblist, kfQWeblist⟩, ⟨nfQWebdict, kfQWebdict⟩⟩
    x_BadWeb := ⟨CXBadWeb, fXBadWeb, _, fun_mk (st := s_BadWeb___init) lXBadWeb cXBadWeb kXBadWeb, PySem.W.mg_of X G aXBadWeb, (fun_mk (st := s_BadWeb___init) lXBadWeb cXBadWeb kXBadWeb).binds (fun _ _ _ _ _ _ us hl => match us, hl with | [_, _], _ => rfl), ⟨⟨_, _, _, _, _, _, _, _, _, _, _, _, _, _, _, xXBadWeb, bmXBadWebo⟩, saXBadWeb, exXBadWeb, tyXBadWeb, kcXBadWeb⟩, iXBadWeb, yXBadWeb, ⟨gaXBadWeb, ggXBadWeb, exXBadWeb, hdXBadWeb⟩, exm_self exXBadWeb icXBadWeb tyXBadWeb suXBadWeb, (fun x hx => by simp only [List.mem_cons, List.not_mem_nil, or_false] at hx; rcases hx with rfl <;> assumption)⟩
    x_BadDay := ⟨CXBadDay, fXBadDay, _, fun_mk (st := s_BadDay___init) lXBadDay cXBadDay kXBadDay, PySem.W.mg_of X G aXBadDay, (fun_mk (st := s_BadDay___init) lXBadDay cXBadDay kXBadDay).binds (fun _ _ _ _ _ _ us hl => match us, hl with | [_, _], _ => rfl), ⟨⟨_, _, _, _, _, _, _, _, _, _, _, _, _, _, _, xXBadDay, bmXBadDayo⟩, saXBadDay, exXBadDay, tyXBadDay, kcXBadDay⟩, iXBadDay, yXBadDay, ⟨gaXBadDay, ggXBadDay, exXBadDay, hdXBadDay⟩, exm_self exXBadDay icXBadDay tyXBadDay suXBadDay, (fun x hx => by simp only [List.mem_cons, List.not_mem_nil, or_false] at hx; rcases hx with rfl <;> assumption)⟩
    x_NoNumber := ⟨CXNoNumber, fXNoNumber, _, fun_mk (st := s_NoNumber___init) lXNoNumber cXNoNumber kXNoNumber, PySem.W.mg_of X G aXNoNumber, (fun_mk (st := s_NoNumber___init) lXNoNumber cXNoNumber kXNoNumber).binds (fun _ _ _ _ _ _ us hl => match us, hl with | [_], _ => rfl), ⟨⟨_, _, _, _, _, _, _, _, _, _, _, _, _, _, _, xXNoNumber, bmXNoNumbero⟩, saXNoNumber, exXNoNumber, tyXNoNumber, kcXNoNumber⟩, iXNoNumber, yXNoNumber, ⟨gaXNoNumber, ggXNoNumber, exXNoNumber, hdXNoNumber⟩, exm_self exXNoNumber icXNoNumber tyXNoNumber suXNoNumber, (fun x hx => nomatch hx)⟩
    x_OtherWeb := ⟨CXOtherWeb, fXOtherWeb, _, fun_mk (st := s_OtherWeb___init) lXOtherWeb cXOtherWeb kXOtherWeb, PySem.W.mg_of X G aXOtherWeb, (fun_mk (st := s_OtherWeb___init) lXOtherWeb cXOtherWeb kXOtherWeb).binds (fun _ _ _ _ _ _ us hl => match us, hl with | [_], _ => rfl), ⟨⟨_, _, _, _, _, _, _, _, _, _, _, _, _, _, _, xXOtherWeb, bmXOtherWebo⟩, saXOtherWeb, exXOtherWeb, tyXOtherWeb, kcXOtherWeb⟩, iXOtherWeb, yXOtherWeb, ⟨gaXOtherWeb, ggXOtherWeb, exXOtherWeb, hdXOtherWeb⟩, exm_self exXOtherWeb icXOtherWeb tyXOtherWeb suXOtherWeb, (fun x hx => nomatch hx)⟩
    x_NoLot := ⟨CXNoLot, fXNoLot, _, fun_mk (st := s_NoLot___init) lXNoLot cXNoLot kXNoLot, PySem.W.mg_of X G aXNoLot, (fun_mk (st := s_NoLot___init) lXNoLot cXNoLot kXNoLot).binds (fun _ _ _ _ _ _ us hl => match us, hl with | [_], _ => rfl), ⟨⟨_, _, _, _, _, _, _, _, _, _, _, _, _, _, _, xXNoLot, bmXNoLoto⟩, saXNoLot, exXNoLot, tyXNoLot, kcXNoLot⟩, iXNoLot, yXNoLot, ⟨gaXNoLot, ggXNoLot, exXNoLot, hdXNoLot⟩, exm_self exXNoLot icXNoLot tyXNoLot suXNoLot, (fun x hx => nomatch hx)⟩
    x_NoSort := ⟨CXNoSort, fXNoSort, _, fun_mk (st := s_NoSort___init) lXNoSort cXNoSort kXNoSort, PySem.W.mg_of X G aXNoSort, (fun_mk (st := s_NoSort___init) lXNoSort cXNoSort kXNoSort).binds (fun _ _ _ _ _ _ us hl => match us, hl with | [_], _ => rfl), ⟨⟨_, _, _, _, _, _, _, _, _, _, _, _, _, _, _, xXNoSort, bmXNoSorto⟩, saXNoSort, exXNoSort, tyXNoSort, kcXNoSort⟩, iXNoSort, yXNoSort, ⟨gaXNoSort, ggXNoSort, exXNoSort, hdXNoSort⟩, exm_self exXNoSort icXNoSort tyXNoSort suXNoSort, (fun x hx => nomatch hx)⟩
    n_isinstance := PySem.W.mg_none_of X G anqisinstance
    n_int := PySem.W.mg_none_of X G anqint
    n_bool := PySem.W.mg_none_of X G anqbool
    n_str := PySem.W.mg_none_of X G anqstr
    n_tuple := PySem.W.mg_none_of X G anqtuple
    n_list := PySem.W.mg_none_of X G anqlist
    n_len := PySem.W.mg_none_of X G anqlen
    n_all := PySem.W.mg_none_of X G anqall
    n_any := PySem.W.mg_none_of X G anqany
    n_abs := PySem.W.mg_none_of X G anqabs
    n_range := PySem.W.mg_none_of X G anqrange
    n_zip := PySem.W.mg_none_of X G anqzip
    n_enumerate := PySem.W.mg_none_of X G anqenumerate
    n_sorted := PySem.W.mg_none_of X G anqsorted
    n_sum := PySem.W.mg_none_of X G anqsum
  }, fun s v => .of_eq rfl⟩

theorem fin {l : PySem.W.OpenLaw} {w : World} {K : PySem.W.Frag} {mg : Str → Option Value} {fa : Addr} (hfa : mg "law" = some (.ref fa)) (h : ∃ T : Tx K mg, ∀ (s : Shared) (v : Value), BindsTo s T.law.fd ⟨[v], []⟩ [("_law_script", v)]) :
    ∃ fd : FuncData, (∀ (s : Shared) (v : Value), BindsTo s fd ⟨[v], []⟩ [("_law_script", v)]) ∧ ∀ base : Heap, K.In base → base.Ns mainGlobals mg → FnOk l.prog w K mg base CX0 14 fa fd ["_law_script"] (spLaw K) := by
  obtain ⟨T, b⟩ := h
  have e := hfa.symm.trans T.law.g
  cases e
  exact ⟨T.law.fd, b, fun base _ _ => ok_law T⟩
theorem walk {l : PySem.W.OpenLaw} {q : Program} {loose : List Str} {XP : (Str → Option Value) → Heap → Prop} {YP : World → Heap → Prop} {d : DefRec} {K : Params → PySem.W.Frag} (hn : l.most = some 63) (hdf : d.params.defaults = [])
    (hY : ∀ (w : World) (h : Heap), YP w h → (K w.params).In h)
    (F : ∀ (w : World) (mg : Str → Option Value) (fa : Addr) (h : Heap), (K w.params).In h → h.Ns mainGlobals mg → mg d.name = some (.ref fa) →
      ∃ fd : FuncData, (∀ (s : Shared) (u : Value), BindsTo s fd ⟨[u], []⟩ [("_law_script", u)]) ∧ ∀ base : Heap, (K w.params).In base → base.Ns mainGlobals mg → FnOk l.prog w (K w.params) mg base CX0 14 fa fd ["_law_script"] (spLaw (K w.params))) :
    PySem.W.WalkO q loose XP YP l.row.toRowW d [] (fun f vs => PySem.call f vs) :=
  L2.walk_of (n := 63) (k := 14) (x := "_law_script") (CX := fun _ => CX0) (sp := fun w => spLaw (K w.params)) hn (by decide) hdf ⟨rfl, by decide, by decide⟩ hY F (fun _ _ a ns hl _ hS => ⟨a, ns, rfl, hS, hl, fun _ => rfl⟩) fun _ _ _ _ _ z => z
end Hc


set_option Elab.async false
set_option linter.all false
open PySem PySem.W PyProof.Rows
set_option maxRecDepth 100000 in
set_option maxHeartbeats 0 in
theorem PySem.Challenge.cw_hourcards_k16_whole_turns_follow_hours_holds : PySem.Challenge.rw_hourcards_k16_whole_turns_follow_hours.Holds := by
  w_on; o_law; k_head; (case hw => w_witness2)
  k_fill
  refine Hc.walk (l := PySem.Challenge.rw_hourcards_k16_whole_turns_follow_hours) rfl rfl (fun w h Y => PySem.W.kIn_of Y) ?F
  case F =>
    intro w mg fa h KX G hmg
    refine Hc.fin hmg ?T
    refine' Hc.tx_mk KX G ?aisqinteger ?lisqinteger ?cisqinteger ?kisqinteger ?aisqfrom ?lisqfrom ?cisqfrom ?kisqfrom ?aisqbetween ?lisqbetween ?cisqbetween ?kisqbetween ?aisqtuple ?lisqtuple ?cisqtuple ?kisqtuple ?aisqpair ?lisqpair ?cisqpair ?kisqpair ?aareqintegers ?lareqintegers ?careqintegers ?kareqintegers ?aareqbetween ?lareqbetween ?careqbetween ?kareqbetween ?aareqroads ?lareqroads ?careqroads ?kareqroads ?aisqbeginqandqend ?lisqbeginqandqend ?cisqbeginqandqend ?kisqbeginqandqend ?aisqroad ?lisqroad ?cisqroad ?kisqroad ?aisqway ?lisqway ?cisqway ?kisqway ?aisqlot ?lisqlot ?cisqlot ?kisqlot ?aisqletter ?lisqletter ?cisqletter ?kisqletter ?aareqletters ?lareqletters ?careqletters ?kareqletters ?aareqhours ?lareqhours ?careqhours ?kareqhours ?afirstqticks ?lfirstqticks ?cfirstqticks ?kfirstqticks ?asomeqearly ?lsomeqearly ?csomeqearly ?ksomeqearly ?asomeqfull ?lsomeqfull ?csomeqfull ?ksomeqfull ?adayqofqanyqsize ?ldayqofqanyqsize ?cdayqofqanyqsize ?kdayqofqanyqsize ?ashifted ?lshifted ?cshifted ?kshifted ?alaidqover ?llaidqover ?claidqover ?klaidqover ?aisqsort ?lisqsort ?cisqsort ?kisqsort ?acheckqlotqandqsort ?lcheckqlotqandqsort ?ccheckqlotqandqsort ?kcheckqlotqandqsort ?acards ?lcards ?ccards ?kcards ?acardsqof ?lcardsqof ?ccardsqof ?kcardsqof ?atoldqof ?ltoldqof ?ctoldqof ?ktoldqof ?aturnsqof ?lturnsqof ?cturnsqof ?kturnsqof ?aareqcards ?lareqcards ?careqcards ?kareqcards ?aisqcard ?lisqcard ?cisqcard ?kisqcard ?aisqtold ?lisqtold ?cisqtold ?kisqtold ?aisqalone ?lisqalone ?cisqalone ?kisqalone ?aqlawqhand ?lqlawqhand ?cqlawqhand ?kqlawqhand ?aqlawqdraw ?lqlawqdraw ?cqlawqdraw ?kqlawqdraw ?aqlawqcounts ?lqlawqcounts ?cqlawqcounts ?kqlawqcounts ?aqlawqweb ?lqlawqweb ?cqlawqweb ?kqlawqweb ?aqlawqnext ?lqlawqnext ?cqlawqnext ?kqlawqnext ?aqlawqway ?lqlawqway ?cqlawqway ?kqlawqway ?aqlawqletters ?lqlawqletters ?cqlawqletters ?kqlawqletters ?aqlawqready ?lqlawqready ?cqlawqready ?kqlawqready ?aqlawqhours ?lqlawqhours ?cqlawqhours ?kqlawqhours ?aqlawqlot ?lqlawqlot ?cqlawqlot ?kqlawqlot ?aqlawqmade ?lqlawqmade ?cqlawqmade ?kqlawqmade ?aqlawqday ?lqlawqday ?cqlawqday ?kqlawqday ?aqlawqpassings ?lqlawqpassings ?cqlawqpassings ?kqlawqpassings ?aqlawqroadqfits ?lqlawqroadqfits ?cqlawqroadqfits ?kqlawqroadqfits ?aqlawqless ?lqlawqless ?cqlawqless ?kqlawqless ?alaw ?llaw ?claw ?klaw ?aMOSTqHOUSES ?aMOSTqROADS ?aMOSTqROOMS ?aLONGESTqTIME ?aLONGESTqWAY ?aMOSTqLETTERS ?aLASTqTICK ?aSORTS ?lSORTS ?aWWeb ?iWWeb ?yWWeb ?lWWeb ?cWWeb ?kWWeb ?pgWWeb ?hdWWeb ?poWWeb ?saWWeb ?mkWWeb ?kcWWeb ?naWWebhouses ?naWWebroads ?naWWebrooms ?naWWebtimes ?aWDay ?iWDay ?yWDay ?lWDay ?cWDay ?kWDay ?pgWDay ?hdWDay ?poWDay ?saWDay ?mkWDay ?kcWDay ?naWDayweb ?naWDayletters ?naWDayhours ?iQWeb ?yQWeb ?lQWeb ?cQWeb ?kQWeb ?kiQWeb ?haQWeb ?hmQWeb ?neQWeb ?sbQWeb ?nfQWebNoneType ?kfQWebNoneType ?nfQWebint ?kfQWebint ?nfQWebbool ?kfQWebbool ?nfQWebstr ?kfQWebstr ?nfQWebtuple ?kfQWebtuple ?nfQWeblist ?kfQWeblist ?nfQWebdict ?kfQWebdict ?hnO ?htO ?aXBadWeb ?xXBadWeb ?bmXBadWebo ?saXBadWeb ?gaXBadWeb ?ggXBadWeb ?iXBadWeb ?yXBadWeb ?lXBadWeb ?cXBadWeb ?kXBadWeb ?kcXBadWeb ?exXBadWeb ?tyXBadWeb ?hdXBadWeb ?icXBadWeb ?suXBadWeb ?naXBadWebpart ?aXBadDay ?xXBadDay ?bmXBadDayo ?saXBadDay ?gaXBadDay ?ggXBadDay ?iXBadDay ?yXBadDay ?lXBadDay ?cXBadDay ?kXBadDay ?kcXBadDay ?exXBadDay ?tyXBadDay ?hdXBadDay ?icXBadDay ?suXBadDay ?naXBadDaypart ?aXNoNumber ?xXNoNumber ?bmXNoNumbero ?saXNoNumber ?gaXNoNumber ?ggXNoNumber ?iXNoNumber ?yXNoNumber ?lXNoNumber ?cXNoNumber ?kXNoNumber ?kcXNoNumber ?exXNoNumber ?tyXNoNumber ?hdXNoNumber ?icXNoNumber ?suXNoNumber ?aXOtherWeb ?xXOtherWeb ?bmXOtherWebo ?saXOtherWeb ?gaXOtherWeb ?ggXOtherWeb ?iXOtherWeb ?yXOtherWeb ?lXOtherWeb ?cXOtherWeb ?kXOtherWeb ?kcXOtherWeb ?exXOtherWeb ?tyXOtherWeb ?hdXOtherWeb ?icXOtherWeb ?suXOtherWeb ?aXNoLot ?xXNoLot ?bmXNoLoto ?saXNoLot ?gaXNoLot ?ggXNoLot ?iXNoLot ?yXNoLot ?lXNoLot ?cXNoLot ?kXNoLot ?kcXNoLot ?exXNoLot ?tyXNoLot ?hdXNoLot ?icXNoLot ?suXNoLot ?aXNoSort ?xXNoSort ?bmXNoSorto ?saXNoSort ?gaXNoSort ?ggXNoSort ?iXNoSort ?yXNoSort ?lXNoSort ?cXNoSort ?kXNoSort ?kcXNoSort ?exXNoSort ?tyXNoSort ?hdXNoSort ?icXNoSort ?suXNoSort ?anqisinstance ?anqint ?anqbool ?anqstr ?anqtuple ?anqlist ?anqlen ?anqall ?anqany ?anqabs ?anqrange ?anqzip ?anqenumerate ?anqsorted ?anqsum
    (case aisqinteger => k_is)
    (case lisqinteger => k_is)
    (case cisqinteger => k_is)
    (case kisqinteger => k_is)
    (case aisqfrom => k_is)
    (case lisqfrom => k_is)
    (case cisqfrom => k_is)
    (case kisqfrom => k_is)
    (case aisqbetween => k_is)
    (case lisqbetween => k_is)
    (case cisqbetween => k_is)
    (case kisqbetween => k_is)
    (case aisqtuple => k_is)
    (case lisqtuple => k_is)
    (case cisqtuple => k_is)
    (case kisqtuple => k_is)
    (case aisqpair => k_is)
    (case lisqpair => k_is)
    (case cisqpair => k_is)
    (case kisqpair => k_is)
    (case aareqintegers => k_is)
    (case lareqintegers => k_is)
    (case careqintegers => k_is)
    (case kareqintegers => k_is)
    (case aareqbetween => k_is)
    (case lareqbetween => k_is)
    (case careqbetween => k_is)
    (case kareqbetween => k_is)
    (case aareqroads => k_is)
    (case lareqroads => k_is)
    (case careqroads => k_is)
    (case kareqroads => k_is)
    (case aisqbeginqandqend => k_is)
    (case lisqbeginqandqend => k_is)
    (case cisqbeginqandqend => k_is)
    (case kisqbeginqandqend => k_is)
    (case aisqroad => k_is)
    (case lisqroad => k_is)
    (case cisqroad => k_is)
    (case kisqroad => k_is)
    (case aisqway => k_is)
    (case lisqway => k_is)
    (case cisqway => k_is)
    (case kisqway => k_is)
    (case aisqlot => k_is)
    (case lisqlot => k_is)
    (case cisqlot => k_is)
    (case kisqlot => k_is)
    (case aisqletter => k_is)
    (case lisqletter => k_is)
    (case cisqletter => k_is)
    (case kisqletter => k_is)
    (case aareqletters => k_is)
    (case lareqletters => k_is)
    (case careqletters => k_is)
    (case kareqletters => k_is)
    (case aareqhours => k_is)
    (case lareqhours => k_is)
    (case careqhours => k_is)
    (case kareqhours => k_is)
    (case afirstqticks => k_is)
    (case lfirstqticks => k_is)
    (case cfirstqticks => k_is)
    (case kfirstqticks => first | k_is | rfl | decide +kernel)
    (case asomeqearly => k_is)
    (case lsomeqearly => k_is)
    (case csomeqearly => k_is)
    (case ksomeqearly => k_is)
    (case asomeqfull => k_is)
    (case lsomeqfull => k_is)
    (case csomeqfull => k_is)
    (case ksomeqfull => k_is)
    (case adayqofqanyqsize => k_is)
    (case ldayqofqanyqsize => k_is)
    (case cdayqofqanyqsize => k_is)
    (case kdayqofqanyqsize => k_is)
    (case ashifted => k_is)
    (case lshifted => k_is)
    (case cshifted => k_is)
    (case kshifted => k_is)
    (case alaidqover => k_is)
    (case llaidqover => k_is)
    (case claidqover => k_is)
    (case klaidqover => k_is)
    (case aisqsort => k_is)
    (case lisqsort => k_is)
    (case cisqsort => k_is)
    (case kisqsort => k_is)
    (case acheckqlotqandqsort => k_is)
    (case lcheckqlotqandqsort => k_is)
    (case ccheckqlotqandqsort => k_is)
    (case kcheckqlotqandqsort => k_is)
    (case acards => k_is)
    (case lcards => k_is)
    (case ccards => k_is)
    (case kcards => k_is)
    (case acardsqof => k_is)
    (case lcardsqof => k_is)
    (case ccardsqof => k_is)
    (case kcardsqof => k_is)
    (case atoldqof => k_is)
    (case ltoldqof => k_is)
    (case ctoldqof => k_is)
    (case ktoldqof => k_is)
    (case aturnsqof => k_is)
    (case lturnsqof => k_is)
    (case cturnsqof => k_is)
    (case kturnsqof => k_is)
    (case aareqcards => k_is)
    (case lareqcards => k_is)
    (case careqcards => k_is)
    (case kareqcards => k_is)
    (case aisqcard => k_is)
    (case lisqcard => k_is)
    (case cisqcard => k_is)
    (case kisqcard => k_is)
    (case aisqtold => k_is)
    (case lisqtold => k_is)
    (case cisqtold => k_is)
    (case kisqtold => k_is)
    (case aisqalone => k_is)
    (case lisqalone => k_is)
    (case cisqalone => k_is)
    (case kisqalone => k_is)
    (case aqlawqhand => k_is)
    (case lqlawqhand => k_is)
    (case cqlawqhand => k_is)
    (case kqlawqhand => k_is)
    (case aqlawqdraw => k_is)
    (case lqlawqdraw => k_is)
    (case cqlawqdraw => k_is)
    (case kqlawqdraw => k_is)
    (case aqlawqcounts => k_is)
    (case lqlawqcounts => k_is)
    (case cqlawqcounts => k_is)
    (case kqlawqcounts => k_is)
    (case aqlawqweb => k_is)
    (case lqlawqweb => k_is)
    (case cqlawqweb => k_is)
    (case kqlawqweb => k_is)
    (case aqlawqnext => k_is)
    (case lqlawqnext => k_is)
    (case cqlawqnext => k_is)
    (case kqlawqnext => k_is)
    (case aqlawqway => k_is)
    (case lqlawqway => k_is)
    (case cqlawqway => k_is)
    (case kqlawqway => k_is)
    (case aqlawqletters => k_is)
    (case lqlawqletters => k_is)
    (case cqlawqletters => k_is)
    (case kqlawqletters => k_is)
    (case aqlawqready => k_is)
    (case lqlawqready => k_is)
    (case cqlawqready => k_is)
    (case kqlawqready => k_is)
    (case aqlawqhours => k_is)
    (case lqlawqhours => k_is)
    (case cqlawqhours => k_is)
    (case kqlawqhours => k_is)
    (case aqlawqlot => k_is)
    (case lqlawqlot => k_is)
    (case cqlawqlot => k_is)
    (case kqlawqlot => k_is)
    (case aqlawqmade => k_is)
    (case lqlawqmade => k_is)
    (case cqlawqmade => k_is)
    (case kqlawqmade => k_is)
    (case aqlawqday => k_is)
    (case lqlawqday => k_is)
    (case cqlawqday => k_is)
    (case kqlawqday => k_is)
    (case aqlawqpassings => k_is)
    (case lqlawqpassings => k_is)
    (case cqlawqpassings => k_is)
    (case kqlawqpassings => k_is)
    (case aqlawqroadqfits => k_is)
    (case lqlawqroadqfits => k_is)
    (case cqlawqroadqfits => k_is)
    (case kqlawqroadqfits => k_is)
    (case aqlawqless => k_is)
    (case lqlawqless => k_is)
    (case cqlawqless => k_is)
    (case kqlawqless => k_is)
    (case alaw => k_is)
    (case llaw => k_is)
    (case claw => k_is)
    (case klaw => k_is)
    (case aMOSTqHOUSES => k_is)
    (case aMOSTqROADS => k_is)
    (case aMOSTqROOMS => k_is)
    (case aLONGESTqTIME => k_is)
    (case aLONGESTqWAY => k_is)
    (case aMOSTqLETTERS => k_is)
    (case aLASTqTICK => k_is)
    (case aSORTS => k_is)
    (case lSORTS => k_is)
    (case aWWeb => k_is)
    (case iWWeb => k_is)
    (case yWWeb => k_is)
    (case lWWeb => k_is)
    (case cWWeb => k_is)
    (case kWWeb => k_is)
    (case pgWWeb => k_is)
    (case hdWWeb => k_is)
    (case poWWeb => k_is)
    (case saWWeb => k_is)
    (case mkWWeb => k_is)
    (case kcWWeb => k_is)
    (case naWWebhouses => k_is)
    (case naWWebroads => k_is)
    (case naWWebrooms => k_is)
    (case naWWebtimes => k_is)
    (case aWDay => k_is)
    (case iWDay => k_is)
    (case yWDay => k_is)
    (case lWDay => k_is)
    (case cWDay => k_is)
    (case kWDay => k_is)
    (case pgWDay => k_is)
    (case hdWDay => k_is)
    (case poWDay => k_is)
    (case saWDay => k_is)
    (case mkWDay => k_is)
    (case kcWDay => k_is)
    (case naWDayweb => k_is)
    (case naWDayletters => k_is)
    (case naWDayhours => k_is)
    (case iQWeb => k_is)
    (case yQWeb => k_is)
    (case lQWeb => k_is)
    (case cQWeb => k_is)
    (case kQWeb => k_is)
    (case kiQWeb => first | k_is | rfl | decide +kernel)
    (case haQWeb => k_is)
    (case hmQWeb => first | k_is | rfl | decide +kernel)
    (case neQWeb => k_is)
    (case sbQWeb => first | k_is | rfl | decide +kernel)
    (case nfQWebNoneType => first | k_is | rfl | decide +kernel)
    (case kfQWebNoneType => first | k_is | rfl | decide +kernel)
    (case nfQWebint => first | k_is | rfl | decide +kernel)
    (case kfQWebint => first | k_is | rfl | decide +kernel)
    (case nfQWebbool => first | k_is | rfl | decide +kernel)
    (case kfQWebbool => first | k_is | rfl | decide +kernel)
    (case nfQWebstr => first | k_is | rfl | decide +kernel)
    (case kfQWebstr => first | k_is | rfl | decide +kernel)
    (case nfQWebtuple => first | k_is | rfl | decide +kernel)
    (case kfQWebtuple => first | k_is | rfl | decide +kernel)
    (case nfQWeblist => first | k_is | rfl | decide +kernel)
    (case kfQWeblist => first | k_is | rfl | decide +kernel)
    (case nfQWebdict => first | k_is | rfl | decide +kernel)
    (case kfQWebdict => first | k_is | rfl | decide +kernel)
    (case hnO => k_is)
    (case htO => k_is)
    (case aXBadWeb => k_is)
    (case xXBadWeb => k_is)
    (case bmXBadWebo => decide +kernel)
    (case saXBadWeb => k_is)
    (case gaXBadWeb => k_is)
    (case ggXBadWeb => k_is)
    (case iXBadWeb => k_is)
    (case yXBadWeb => k_is)
    (case lXBadWeb => k_is)
    (case cXBadWeb => k_is)
    (case kXBadWeb => k_is)
    (case kcXBadWeb => k_is)
    (case exXBadWeb => k_is)
    (case tyXBadWeb => k_is)
    (case hdXBadWeb => k_is)
    (case icXBadWeb => k_is)
    (case suXBadWeb => first | rfl | k_is)
    (case naXBadWebpart => k_is)
    (case aXBadDay => k_is)
    (case xXBadDay => k_is)
    (case bmXBadDayo => decide +kernel)
    (case saXBadDay => k_is)
    (case gaXBadDay => k_is)
    (case ggXBadDay => k_is)
    (case iXBadDay => k_is)
    (case yXBadDay => k_is)
    (case lXBadDay => k_is)
    (case cXBadDay => k_is)
    (case kXBadDay => k_is)
    (case kcXBadDay => k_is)
    (case exXBadDay => k_is)
    (case tyXBadDay => k_is)
    (case hdXBadDay => k_is)
    (case icXBadDay => k_is)
    (case suXBadDay => first | rfl | k_is)
    (case naXBadDaypart => k_is)
    (case aXNoNumber => k_is)
    (case xXNoNumber => k_is)
    (case bmXNoNumbero => decide +kernel)
    (case saXNoNumber => k_is)
    (case gaXNoNumber => k_is)
    (case ggXNoNumber => k_is)
    (case iXNoNumber => k_is)
    (case yXNoNumber => k_is)
    (case lXNoNumber => k_is)
    (case cXNoNumber => k_is)
    (case kXNoNumber => k_is)
    (case kcXNoNumber => k_is)
    (case exXNoNumber => k_is)
    (case tyXNoNumber => k_is)
    (case hdXNoNumber => k_is)
    (case icXNoNumber => k_is)
    (case suXNoNumber => first | rfl | k_is)
    (case aXOtherWeb => k_is)
    (case xXOtherWeb => k_is)
    (case bmXOtherWebo => decide +kernel)
    (case saXOtherWeb => k_is)
    (case gaXOtherWeb => k_is)
    (case ggXOtherWeb => k_is)
    (case iXOtherWeb => k_is)
    (case yXOtherWeb => k_is)
    (case lXOtherWeb => k_is)
    (case cXOtherWeb => k_is)
    (case kXOtherWeb => k_is)
    (case kcXOtherWeb => k_is)
    (case exXOtherWeb => k_is)
    (case tyXOtherWeb => k_is)
    (case hdXOtherWeb => k_is)
    (case icXOtherWeb => k_is)
    (case suXOtherWeb => first | rfl | k_is)
    (case aXNoLot => k_is)
    (case xXNoLot => k_is)
    (case bmXNoLoto => decide +kernel)
    (case saXNoLot => k_is)
    (case gaXNoLot => k_is)
    (case ggXNoLot => k_is)
    (case iXNoLot => k_is)
    (case yXNoLot => k_is)
    (case lXNoLot => k_is)
    (case cXNoLot => k_is)
    (case kXNoLot => k_is)
    (case kcXNoLot => k_is)
    (case exXNoLot => k_is)
    (case tyXNoLot => k_is)
    (case hdXNoLot => k_is)
    (case icXNoLot => k_is)
    (case suXNoLot => first | rfl | k_is)
    (case aXNoSort => k_is)
    (case xXNoSort => k_is)
    (case bmXNoSorto => decide +kernel)
    (case saXNoSort => k_is)
    (case gaXNoSort => k_is)
    (case ggXNoSort => k_is)
    (case iXNoSort => k_is)
    (case yXNoSort => k_is)
    (case lXNoSort => k_is)
    (case cXNoSort => k_is)
    (case kXNoSort => k_is)
    (case kcXNoSort => k_is)
    (case exXNoSort => k_is)
    (case tyXNoSort => k_is)
    (case hdXNoSort => k_is)
    (case icXNoSort => k_is)
    (case suXNoSort => first | rfl | k_is)
    (case anqisinstance => k_is)
    (case anqint => k_is)
    (case anqbool => k_is)
    (case anqstr => k_is)
    (case anqtuple => k_is)
    (case anqlist => k_is)
    (case anqlen => k_is)
    (case anqall => k_is)
    (case anqany => k_is)
    (case anqabs => k_is)
    (case anqrange => k_is)
    (case anqzip => k_is)
    (case anqenumerate => k_is)
    (case anqsorted => k_is)
    (case anqsum => k_is)

