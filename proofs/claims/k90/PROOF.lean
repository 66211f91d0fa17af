import PyProof.Rows.All
import Wide.All
import OpenK.AllK
import Wide.FinOn
import HandS.ForMost
import HandS.IsInst
import HandS.TupMul
import HandS.TupAny
import HandS.Exc
import HandS.ExcOwn
import HandS.ExcInit
import HandS.ExcField
import HandS.TryOnly
import HandS.WordsExc
import HandS.EndBits
import HandS.CallSlots
import HandS.Deep
import HandS.Style
import PyProof.Rows.IntBool
import HandS.Iter
import HandS.Zip
import PyProof.EnumMake
import PyProof.EnumIter
import PyProof.EnumFor
import PyProof.Draws
import KE.GoesMore
import HandS.TryMany
import HandS.ExcIs
import HandS.SetFor
import HandS.Strs
import HandS.Conv
import PyProof.Rows.SortShell
import KE.GoesEnum
import KE.KTupSum
import HandS.Keys
import HandS.Star
import HandS.WideBits
import HandS.Codes
import PySem.Challenge.RW_hourcards_k90_whole_great_lines_and_ring

set_option Elab.async false
set_option linter.all false
set_option maxRecDepth 100000
set_option maxHeartbeats 4000000
namespace Hc
open PySem L2
/-- things, as far as they are looked into -/
inductive D where
  | non | bl (b : Bool) | int (i : Int) | str (s : Str) | tup (xs : List D) | lst | dct
def tyOf : D → String
  | .non => "NoneType" | .bl _ => "bool" | .int _ => "int" | .str _ => "str" | .tup _ => "tuple" | .lst => "list" | .dct => "dict"
section
variable (H : Hp) (h : Addr)
mutual
/-- v is the thing d, in the heap H, apart from the list at h -/
inductive Rp : V → D → Prop
  | non : Rp .non .non
  | bl (b : Bool) : Rp (.bl b) (.bl b)
  | int (i : Int) : Rp (.int i) (.int i)
  | str (x : Str) : Rp (.str x) (.str x)
  | tup {a : Addr} {xs : List V} {ds : List D} : H a = some (.tup xs) → xs.length ≤ 100000 → RpA xs ds → Rp (.ref a) (.tup ds)
  | lst {a : Addr} {xs : List V} : H a = some (.lst xs) → a ≠ h → Rp (.ref a) .lst
  | dct {a : Addr} {kvs : List (Key × V)} : H a = some (.dK kvs) → Rp (.ref a) .dct
inductive RpA : List V → List D → Prop
  | nil : RpA [] []
  | cons {v : V} {vs : List V} {d : D} {ds : List D} : Rp v d → RpA vs ds → RpA (v :: vs) (d :: ds)
end
end
/-- all but what stands at h is as it was -/
def But (h : Addr) (H H' : Hp) : Prop := ∀ b o, H b = some o → b ≠ h → H' b = some o
theorem But.refl (h : Addr) (H : Hp) : But h H H := fun _ _ e _ => e
theorem But.trans {h : Addr} {H H1 H2 : Hp} (a : But h H H1) (b : But h H1 H2) : But h H H2 := fun c o e n => b c o (a c o e n) n
theorem But.of {h : Addr} {H H' : Hp} (s : Same H H') : But h H H' := fun b o e _ => s b o e
theorem But.free {h : Addr} {H H' : Hp} (k : But h H H') {l : Addr} (hl : l ≠ h) (e : H' l = none) : H l = none := by
  cases q : H l with
  | none => rfl
  | some o => rw [k l o q hl] at e; cases e
theorem same_upd {H : Hp} {p : Addr} {o : HO} (hp : H p = none) : Same H (upd H p o) := fun b u e => by
  rw [upd_ne (ne_of_none e hp)]; exact e
theorem but_upd {H : Hp} {h : Addr} {o : HO} : But h H (upd H h o) := fun b u e n => by
  rw [upd_ne n]; exact e
def IsLst (H : Hp) (h : Addr) : Prop := ∃ xs, H h = some (.lst xs)
section
variable {H H' : Hp} {h : Addr}
mutual
theorem Rp.mono (l : IsLst H h) (k : But h H H') : ∀ {v : V} {d : D}, Rp H h v d → Rp H' h v d
  | _, _, .non => .non
  | _, _, .bl b => .bl b
  | _, _, .int i => .int i
  | _, _, .str x => .str x
  | _, _, .tup e z r => .tup (k _ _ e (by obtain ⟨zs, q⟩ := l; exact ne_of e q (by intro z; cases z))) z (RpA.mono l k r)
  | _, _, .lst e n => .lst (k _ _ e n) n
  | _, _, .dct e => .dct (k _ _ e (by obtain ⟨zs, q⟩ := l; exact ne_of e q (by intro z; cases z)))
theorem RpA.mono (l : IsLst H h) (k : But h H H') : ∀ {vs : List V} {ds : List D}, RpA H h vs ds → RpA H' h vs ds
  | _, _, .nil => .nil
  | _, _, .cons a r => .cons (Rp.mono l k a) (RpA.mono l k r)
end
mutual
theorem Rp.same (k : Same H H') : ∀ {v : V} {d : D}, Rp H h v d → Rp H' h v d
  | _, _, .non => .non
  | _, _, .bl b => .bl b
  | _, _, .int i => .int i
  | _, _, .str x => .str x
  | _, _, .tup e z r => .tup (k _ _ e) z (RpA.same k r)
  | _, _, .lst e n => .lst (k _ _ e) n
  | _, _, .dct e => .dct (k _ _ e)
theorem RpA.same (k : Same H H') : ∀ {vs : List V} {ds : List D}, RpA H h vs ds → RpA H' h vs ds
  | _, _, .nil => .nil
  | _, _, .cons a r => .cons (Rp.same k a) (RpA.same k r)
end
theorem RpA.len : ∀ {vs : List V} {ds : List D}, RpA H h vs ds → vs.length = ds.length
  | _, _, .nil => rfl
  | _, _, .cons a r => by rw [List.length_cons, List.length_cons, RpA.len r]
theorem RpA.get : ∀ {vs : List V} {ds : List D} {i : Nat} {v : V}, RpA H h vs ds → vs[i]? = some v → ∃ d, ds[i]? = some d ∧ Rp H h v d
  | _, _, i, _, .nil, e => by simp at e
  | _, _, 0, _, .cons a r, e => by simp at e; subst e; exact ⟨_, rfl, a⟩
  | _, _, i + 1, v, .cons a r, e => by
    obtain ⟨d, h1, h2⟩ := RpA.get (i := i) (v := v) r (by simpa using e)
    exact ⟨d, by simpa using h1, h2⟩
theorem RpA.app : ∀ {vs ws : List V} {ds es : List D}, RpA H h vs ds → RpA H h ws es → RpA H h (vs ++ ws) (ds ++ es)
  | _, _, _, _, .nil, s => s
  | _, _, _, _, .cons a r, s => .cons a (RpA.app r s)
theorem RpA.take : ∀ {vs : List V} {ds : List D} (n : Nat), RpA H h vs ds → RpA H h (vs.take n) (ds.take n)
  | _, _, 0, _ => .nil
  | _, _, _ + 1, .nil => .nil
  | _, _, n + 1, .cons a r => .cons a (RpA.take n r)
theorem RpA.drop : ∀ {vs : List V} {ds : List D} (n : Nat), RpA H h vs ds → RpA H h (vs.drop n) (ds.drop n)
  | _, _, 0, r => r
  | _, _, _ + 1, .nil => .nil
  | _, _, n + 1, .cons _ r => RpA.drop n r
/-- its type -/
theorem Rp.ty {K : PySem.W.Frag} {v : V} {d : D} (r : Rp H h v d) : TyX K H v (.type (tyOf d)) := by
  cases r with
  | non => exact .base .non
  | bl b => exact .base (.bl b)
  | int i => exact .base (.int i)
  | str x => exact .base (.str x)
  | tup e _ _ => exact .base (.tup e)
  | lst e _ => exact .base (.lst e)
  | dct e => exact .base (.dK e)
end
def isIB : D → Bool | .int _ => true | .bl _ => true | _ => false
def isB : D → Bool | .bl _ => true | _ => false
def isT : D → Bool | .tup _ => true | _ => false
theorem kitI (d : D) : kitB (tyOf d) "int" = some (isIB d) := by cases d <;> (simp only [tyOf, isIB]; decide +kernel)
theorem kitBo (d : D) : kitB (tyOf d) "bool" = some (isB d) := by cases d <;> (simp only [tyOf, isB]; decide +kernel)
theorem kitT (d : D) : kitB (tyOf d) "tuple" = some (isT d) := by cases d <;> (simp only [tyOf, isT]; decide +kernel)
def isInt : D → Bool | .int _ => true | _ => false
def isBtw (lo hi : Int) : D → Bool | .int i => decide (lo ≤ i) && decide (i ≤ hi) | _ => false
def areInts (n : Int) : D → Bool | .tup ds => decide ((ds.length : Int) = n) && ds.all isInt | _ => false
def areBtw (n lo hi : Int) : D → Bool | .tup ds => decide ((ds.length : Int) = n) && ds.all (isBtw lo hi) | _ => false
def neq2 : D → Bool | .tup (.int a :: .int b :: _) => !decide (a = b) | _ => false
def isBE (n : Int) (d : D) : Bool := areBtw 2 0 (n - 1) d && neq2 d
def areRoads (n : Int) : D → Bool | .tup ds => decide (1 ≤ ds.length) && decide (ds.length ≤ 24) && ds.all (isBE n) | _ => false
end Hc


set_option Elab.async false
set_option linter.all false
set_option maxRecDepth 100000
set_option maxHeartbeats 4000000
namespace L2
open PySem PySem.Spec PyProof.Rows
/-- x - j, x an int or a bool -/
def rSubA : R2 := fun x y H Q => (∃ i j, x = .int i ∧ y = .int j ∧ Q (.int (i - j)) H) ∨ ∃ b j, x = .bl b ∧ y = .int j ∧ Q (.int ((if b = true then (1 : Int) else 0) - j)) H
theorem op_subA {X : Cx} : OpR X (binaryOp .Sub) rSubA := by
  intro pins s σ H x y v u Q I rx ry h
  rcases h with ⟨i, j, rfl, rfl, q⟩ | ⟨b, j, rfl, rfl, q⟩
  · exact op_sub pins s σ H _ _ v u Q I rx ry ⟨i, j, rfl, rfl, q⟩
  · cases rx
    obtain ⟨t, rfl⟩ := ry
    exact PySem.IntBool.sub_bool_int ⟨.int _, H, I.tok _, ⟨_, rfl⟩, q⟩
/-- t * 1 is t -/
theorem tuple_mul1 (l : Addr) (items : Array Value) (n : Nat) (dd : Option Addr) (sl : Array (Option Value)) (u : Tok) :
    Meets (Builtin.«tuple.__mul__» ⟨[.ref l, .int 1 u], []⟩) (fun _ R s => s.heap.get? l = some { cls := .type "tuple", dict := dd, data := .seq items n, slots := sl } ∧
      R (.ok (.ret (Value.ref l))) s) :=
  .of_wp fun prog w A R s h => by
    obtain ⟨hp, g, d, tk, os⟩ := s
    obtain ⟨hl, h⟩ := h
    have f1 := AutoSeq1.idx_int
    have c0 : (decide ((1 : Int) < -(2 ^ 63)) || decide ((1 : Int) ≥ 2 ^ 63)) = false := by decide
    have c1 : (items.isEmpty || ((1 : Int) == 1)) = true := by rw [Bool.or_eq_true]; exact .inr rfl
    wp_walk using wpAny_loadPart' hl
    repeat (first
      | (refine wpAny_ite_false (decide_eq_false (by rw [c0]; exact Bool.false_ne_true)) ?_; wp_walk using wpAny_loadPart' hl)
      | (refine wpAny_ite_true (decide_eq_true c1) ?_; wp_walk using wpAny_loadPart' hl))
    exact ⟨_, rfl, h⟩
def rRepA (K : PySem.W.Frag) : R2 := fun x y H Q => ∃ l k xs, x = .ref l ∧ y = .int k ∧ SqT K H l xs ∧ xs ≠ [] ∧ 1 ≤ k ∧ k ≤ 1000 ∧ xs.length ≤ 1000 ∧
  (k = 1 → Q (.ref l) H) ∧ (2 ≤ k → ∀ p, H p = none → Q (.ref p) (upd H p (.tup (List.replicate k.toNat xs).flatten)))
theorem op_repA {X : Cx} : OpR X (binaryOp .Mult) (rRepA X.K) := by
  intro pins s σ H x y v u Q I rx ry h
  obtain ⟨l, k, xs, rfl, rfl, hT, hne, h1, h2, hz, q1, q2⟩ := h
  by_cases h3 : 2 ≤ k
  · exact op_repT pins s σ H _ _ v u Q I rx ry ⟨l, k, xs, rfl, rfl, hT, hne, h3, h2, hz, q2 h3⟩
  · obtain rfl : k = 1 := by omega
    cases rx
    obtain ⟨t, rfl⟩ := ry
    obtain ⟨its, r, ⟨⟨cls, dd, data, sl⟩, ho, hc, n, hd⟩, hs⟩ := I.tuple hT
    simp only at hc hd
    subst hc hd
    exact wpAny_binaryOp_repeat_ref (T := "tuple") (U := "int") (by decide) ⟨_, ho, rfl⟩ (fun s' => typeIs_int s' 1 t) noFill_tuple_mul F.fills_int_mul F.slot_int_rmul repeat_tuple F.slot_int_index.lookup
      (call_meets F.slot_int_rmul (typeIs_int s 1 t) F.entry_int_rmul (F.args_int_rmul_2 _ _) (int_rmul_tuple 1 t l its.toArray n dd sl)
        ⟨ho, rfl, ⟨_, ho, rfl⟩, call_meets F.slot_tuple_mul ⟨_, ho, rfl⟩ F.entry_tuple_mul (F.args_tuple_mul_2 _ _) (tuple_mul1 l its.toArray n dd sl t) ⟨ho, ⟨.ref l, H, I, rfl, q1 rfl⟩⟩⟩)
/-- C(e, ..) where what is raised is wished for at the caller's slots -/
def tMakeS (C : Addr) (sp : Sp) (dvs : List V) (E : St → XK) (t : TA) : TE := fun σ H Q => t σ H fun vs H1 => ∀ x dx, H1 x = none → H1 dx = none → dx ≠ x →
  sp (.ref x :: (vs ++ dvs)) (upd (upd H1 dx (.own x)) x (.ins C dx [])) (fun v H2 => v = .non ∧ Q (.ref x) H2) (E σ)
section
variable {X : Cx} {CX : CXT} {k : Nat} {f C : Addr} {fd : FuncData} {ps : List Str} {sp : Sp} {dvs : List V} {ds : List Value} {E : St → XK} {x m : Str} {p pos apos : Pos} {e o : Expr} {es : List Expr} {ta : TE} {t : TA}
theorem pe_makeS (M : Mk X.K C f) (F : FnOk X.prog X.w X.K X.mg X.base CX k f fd ps sp) (hr : Room (k + 1) X.A) (hg : Gl X x) (hm : X.mg x = some (.ref C)) (hb : Binds X.K fd ps ds) (hd : Vals dvs ds) (hx : ∀ σ, PassesAt CX X σ (E σ))
    (ha : PA X (e :: es) t) (hdb : (x == ("__debug__" : Str)) = false := by decide) (he : starEach (e :: es) X.env = (false, eval e X.env) :: starEach es X.env := by rfl) (hpl : (backTo pos (starEach es X.env)).any (·.1) = false := by rfl) :
    PE X (.Call (.Name x p) (e :: es) [] pos) (tMakeS C sp dvs E t) := by
  refine ⟨fun pins s0 σ H0 Q I0 h0 => ?_⟩
  refine wpAny_Call_Name_kw (ld_glob I0 hg hm ?_ hdb)
  refine PySem.W.callWith_K (h₀ := X.base) I0.ok.mod.kin M.kp (thn (ha.run pos pins s0 σ H0 _ I0 h0) fun us s ⟨vs, H, I, r, h⟩ => ⟨I.kIn, ?_⟩) he hpl
  have hq := h (s.heap.objs.size + 1) s.heap.objs.size (I.hok.fresh (Nat.le_succ _)) (I.hok.fresh (Nat.le_refl _)) (Nat.ne_of_lt (Nat.lt_succ_self _))
  have I2 := Inv.made (C := C) I
  have r2 : Vals (V.ref (s.heap.objs.size + 1) :: (vs ++ dvs)) (Value.ref (s.heap.objs.size + 1) :: (us ++ ds)) := .cons rfl (r.append hd)
  have hl : (Value.ref (s.heap.objs.size + 1) :: us ++ ds).length = ps.length := by
    have e := r2.length
    rw [F.len _ _ _ _ hq] at e
    exact e.symm
  refine wpAny_call (make_map (f := f) I.kIn M.makes M.init (beq_iff_eq.mp M.fn) (codeAny_mono (F.run _ X.stack _ _ ⟨Value.ref (s.heap.objs.size + 1) :: us, []⟩ (Value.ref (s.heap.objs.size + 1) :: (us ++ ds)) _ _ (E σ) (hr.make C us [])
    (I2.env0.make C us []) (hb _ (Value.ref (s.heap.objs.size + 1) :: us) I2.kIn hl) r2 hq) fun r s' hq' => ?_))
  cases r with
  | error e => exact hx σ pins _ _ e s' I2 hq'
  | ok fl =>
    cases fl with
    | ret u =>
      obtain ⟨v, H', I3, rv, ev, q3⟩ := I2.after hq'
      subst ev
      exact ⟨rv, ⟨V.ref (s.heap.objs.size + 1), H', I3, rfl, q3⟩⟩
    | next => exact False.elim hq'
    | brk => exact False.elim hq'
    | cont => exact False.elim hq'
end
end L2
/-! ### Hc -/
namespace Hc
open PySem L2
theorem line_lt {n : Nat} (h : n ≤ 100000) : n < sizeLine := by rw [sizeLine_eq]; omega
theorem line_le {n : Nat} (h : n ≤ 100000) : n ≤ sizeLine := by rw [sizeLine_eq]; omega
theorem take_more {α : Type} : ∀ {l : List α} {i : Nat} {x : α}, l[i]? = some x → l.take (i + 1) = l.take i ++ [x]
  | [], i, x, h => by simp at h
  | a :: l, 0, x, h => by
    have e : a = x := Option.some.inj h
    subst e
    rfl
  | a :: l, i + 1, x, h => by
    have ih := take_more (l := l) (i := i) (x := x) h
    show a :: l.take (i + 1) = a :: l.take i ++ [x]
    rw [ih]
    rfl
/-- [p(x) for x in t]: the list of the answers -/
theorem all_tup {K : PySem.W.Frag} {H : Hp} {h a A : Addr} {xs : List V} {ds : List D} {j : Nat} {te : TE} {σ : St} {vs : List Nat} {Qd : Hp → Prop}
    (e : H a = some (.tup xs)) (z : xs.length ≤ 100000) (ra : RpA H h xs ds) (p : D → Bool) (hA : H A = none)
    (hw : ∀ x, wipe ((wipe σ vs).set j (some x)) vs = wipe σ vs)
    (hs : ∀ x d H' (Q : VK), d ∈ ds → Same H H' → Rp H' h x d → (∀ H4, Same H' H4 → Q (.bl (p d)) H4) → te ((wipe σ vs).set j (some x)) H' Q)
    (hd : ∀ H', Same H H' → SqL K H' A ((ds.map p).map V.bl) → Qd H') :
    ∃ W : Nat → Nat → Hp → Prop, (∃ m, W 0 m (upd H A (.lst []))) ∧ ∀ i m H, W i m H →
      ((Itt K a).stop i H ∧ Qd H) ∨ ((Itt K a).go i H ∧ ∃ Nx : Hp → Prop, (∀ H', Nx H' → ∃ m', m' < m ∧ W (i + 1) m' H') ∧ ∀ x H', (Itt K a).yld i H x H' → (gName j) x (wipe σ vs) H' fun σ2 H2 => wipe σ2 vs = wipe σ vs ∧ tYes σ2 H2 fun b H3 =>
        if b = true then te σ2 H3 fun y H4 => ∃ acc, H4 A = some (.lst acc) ∧ acc.length < sizeLine ∧ Nx (upd H4 A (.lst (acc ++ [y]))) else Nx H3) := by
  have hl := ra.len
  refine lc_tup (K := K) (xs := xs) (fun i H' => Same H (fun b => if b = A then none else H' b) ∧ H' A = some (.lst (((ds.take i).map p).map V.bl)))
    ⟨fun b o q => ?_, upd_same⟩ (fun i H' hi ⟨s, _⟩ => ?_) ?_ ?_
  · have n := ne_of_none q hA
    show (if b = A then none else upd H A _ b) = _
    rw [if_neg n, upd_ne n]; exact q
  · have q := s _ _ e
    have n := ne_of_none e hA
    simp only [if_neg n] at q
    exact SqT.of q
  · intro i x H' hx ⟨s, hH⟩
    have sm : Same H H' := fun b o q => by
      have r := s b o q
      simp only [if_neg (ne_of_none q hA)] at r
      exact r
    obtain ⟨d, hd1, rp⟩ := ra.get hx
    have hi : i < xs.length := (List.getElem?_eq_some_iff.mp hx).1
    refine ⟨hw x, ?_⟩
    unfold tYes
    show (if true = true then te _ _ _ else _)
    rw [if_pos rfl]
    refine hs x d H' _ (List.mem_of_getElem? hd1) sm (rp.same sm) fun H4 s4 => ⟨_, s4 _ _ hH, ?_, ?_, ?_⟩
    · rw [List.length_map, List.length_map, List.length_take]
      exact line_lt (by omega)
    · intro b o q
      have n := ne_of_none q hA
      show (if b = A then none else upd H4 A _ b) = _
      rw [if_neg n, upd_ne n]
      exact s4 _ _ (sm _ _ q)
    · rw [upd_same, take_more hd1, List.map_append, List.map_append]; rfl
  · intro H' ⟨s, hH⟩
    have sm : Same H H' := fun b o q => by
      have r := s b o q
      simp only [if_neg (ne_of_none q hA)] at r
      exact r
    rw [hl, List.take_length] at hH
    exact hd H' sm (SqL.of hH)
/-- [x for x in t if not p(x)]: as many as are none -/
theorem none_tup {K : PySem.W.Frag} {H : Hp} {h a A : Addr} {xs : List V} {ds : List D} {j : Nat} {te : TE} {tt : TT} {σ : St} {vs : List Nat} {Qd : Hp → Prop}
    (e : H a = some (.tup xs)) (z : xs.length ≤ 100000) (ra : RpA H h xs ds) (p : D → Bool) (hA : H A = none)
    (hw : ∀ x, wipe ((wipe σ vs).set j (some x)) vs = wipe σ vs)
    (hs : ∀ x d H' (Q : Bool → Hp → Prop), d ∈ ds → Same H H' → Rp H' h x d → (∀ H4, Same H' H4 → Q (!p d) H4) → tt ((wipe σ vs).set j (some x)) H' Q)
    (ht : ∀ x H' (Q : VK), Same H H' → (∀ y, Q y H') → te ((wipe σ vs).set j (some x)) H' Q)
    (hd : ∀ H' acc, Same H H' → SqL K H' A acc → acc.length ≤ 100000 → (acc.length = 0 ↔ ds.all p = true) → Qd H') :
    ∃ W : Nat → Nat → Hp → Prop, (∃ m, W 0 m (upd H A (.lst []))) ∧ ∀ i m H, W i m H →
      ((Itt K a).stop i H ∧ Qd H) ∨ ((Itt K a).go i H ∧ ∃ Nx : Hp → Prop, (∀ H', Nx H' → ∃ m', m' < m ∧ W (i + 1) m' H') ∧ ∀ x H', (Itt K a).yld i H x H' → (gName j) x (wipe σ vs) H' fun σ2 H2 => wipe σ2 vs = wipe σ vs ∧ tt σ2 H2 fun b H3 =>
        if b = true then te σ2 H3 fun y H4 => ∃ acc, H4 A = some (.lst acc) ∧ acc.length < sizeLine ∧ Nx (upd H4 A (.lst (acc ++ [y]))) else Nx H3) := by
  have hl := ra.len
  refine lc_tup (K := K) (xs := xs) (fun i H' => Same H (fun b => if b = A then none else H' b) ∧ ∃ acc, H' A = some (.lst acc) ∧ acc.length ≤ i ∧ (acc.length = 0 ↔ (ds.take i).all p = true))
    ⟨fun b o q => ?_, [], upd_same, Nat.le_refl _, by simp⟩ (fun i H' hi ⟨s, _⟩ => ?_) ?_ ?_
  · have n := ne_of_none q hA
    show (if b = A then none else upd H A _ b) = _
    rw [if_neg n, upd_ne n]; exact q
  · have q := s _ _ e
    have n := ne_of_none e hA
    simp only [if_neg n] at q
    exact SqT.of q
  · intro i x H' hx ⟨s, acc, hH, h1, h2⟩
    have sm : Same H H' := fun b o q => by
      have r := s b o q
      simp only [if_neg (ne_of_none q hA)] at r
      exact r
    obtain ⟨d, hd1, rp⟩ := ra.get hx
    have hi : i < xs.length := (List.getElem?_eq_some_iff.mp hx).1
    refine ⟨hw x, hs x d H' _ (List.mem_of_getElem? hd1) sm (rp.same sm) fun H4 s4 => ?_⟩
    cases hp : p d with
    | false =>
      rw [if_pos (by decide)]
      refine ht x H4 _ (fun b o q => s4 _ _ (sm _ _ q)) fun y => ⟨_, s4 _ _ hH, line_lt (by omega), fun b o q => ?_, _, upd_same, ?_, ?_⟩
      · have n := ne_of_none q hA
        show (if b = A then none else upd H4 A _ b) = _
        rw [if_neg n, upd_ne n]
        exact s4 _ _ (sm _ _ q)
      · rw [List.length_append, List.length_singleton]; omega
      · rw [List.length_append, List.length_singleton, take_more hd1, List.all_append]
        simp [hp]
    | true =>
      rw [if_neg (by decide)]
      refine ⟨fun b o q => ?_, acc, s4 _ _ hH, by omega, ?_⟩
      · have n := ne_of_none q hA
        show (if b = A then none else H4 b) = _
        rw [if_neg n]
        exact s4 _ _ (sm _ _ q)
      · rw [take_more hd1, List.all_append, h2]
        simp [hp]
  · intro H' ⟨s, acc, hH, h1, h2⟩
    have sm : Same H H' := fun b o q => by
      have r := s b o q
      simp only [if_neg (ne_of_none q hA)] at r
      exact r
    rw [hl, List.take_length] at h2
    exact hd H' acc sm (SqL.of hH) (by omega) h2
end Hc


set_option Elab.async false
set_option linter.all false
set_option maxRecDepth 100000
set_option maxHeartbeats 4000000
set_option autoImplicit false
namespace PySem
open Sem (wp)
open AutoSeq1 (wpAny_loadPart')
theorem meets_enumerate_newT (l : Addr) (items : Array Value) (n : Nat) (dct : Option Addr) (sl : Array (Option Value)) :
    Meets (Builtin.«enumerate.__new__» ⟨[.type "enumerate", .ref l], []⟩) (fun _ R s => s.heap.get? l = some { cls := .type "tuple", dict := dct, data := .seq items n, slots := sl } ∧
      R (.ok (.ret (.ref (s.heap.push { cls := .type "tuple_iterator", data := .fields #[.ref l, .int 0 0] }).objs.size)))
        { s with heap := (s.heap.push { cls := .type "tuple_iterator", data := .fields #[.ref l, .int 0 0] }).push { cls := .type "enumerate", data := .fields #[.none, .bool false, .ref s.heap.objs.size, rawInt 0, .none, .none] } }) :=
  .of_wp fun prog w A R s h => by
    obtain ⟨hp, g, d, tk, os⟩ := s; obtain ⟨hl, h⟩ := h
    have hsub := sub_enumerate
    have hL : Heap.IsTuple (Shared.heap ⟨hp, g, d, tk, os⟩) l items := ⟨_, hl, rfl, n, rfl⟩
    wp_walk using wpAny_loadPart' hl
    refine wpAny_stack_any fun st => wpAny_pure ?_
    split
    · rename_i c _ _ _ _ _
      cases (c == Value.type "enumerate")
      · wp_walk using wpAny_loadPart' hl, wpAny_pyIter_tuple hL
        exact ⟨_, rfl, h⟩
      · wp_walk using wpAny_loadPart' hl, wpAny_pyIter_tuple hL
        exact ⟨_, rfl, h⟩
    · wp_walk using wpAny_loadPart' hl, wpAny_pyIter_tuple hL
      exact ⟨_, rfl, h⟩
section
variable {prog : Program} {w : World} {A : Around} {E : Value → Shared → Prop} {s : Shared}
theorem call_enumerate_tuple {l : Addr} {items : Array Value} {Q : Value → Shared → Prop} (hL : s.heap.IsTuple l items)
    (h : ∀ h', IsEnum h' (s.heap.objs.size + 1) s.heap.objs.size 0 .none → h'.IsTupleIter s.heap.objs.size l 0 → h'.objs.size = s.heap.objs.size + 2 →
      (∀ b o, s.heap.get? b = some o → h'.get? b = some o) → Q (.ref (s.heap.objs.size + 1)) { s with heap := h' }) :
    wpAny (model prog w) A (call (.type "enumerate") [.ref l]) Q E s := by
  obtain ⟨⟨c, dct, dt, sl⟩, hl, hc, n, hd⟩ := hL
  replace hc : c = .type "tuple" := hc
  replace hd : dt = .seq items n := hd
  subst hc hd
  refine callType_new F.called_enumerate (by decide) (F.typeCall_enumerate_1 _) (F.newCall_enumerate_1 _) (fun obj => F.args_object_init_2 obj _) F.entry_enumerate_new
    (meets_enumerate_newT l items n dct sl) ⟨hl, ?_⟩
  have hz : (s.heap.push { cls := .type "tuple_iterator", data := .fields #[.ref l, .int 0 0] }).objs.size = s.heap.objs.size + 1 := Heap.size_push ..
  show _ ∧ _
  rw [hz]
  have he : IsEnum ((s.heap.push { cls := .type "tuple_iterator", data := .fields #[.ref l, .int 0 0] }).push
      { cls := .type "enumerate", data := .fields #[.none, .bool false, .ref s.heap.objs.size, rawInt 0, .none, .none] }) (s.heap.objs.size + 1) s.heap.objs.size 0 .none := by
    have := Heap.get?_push_size (s.heap.push { cls := .type "tuple_iterator", data := .fields #[.ref l, .int 0 0] })
      (o := { cls := .type "enumerate", data := .fields #[.none, .bool false, .ref s.heap.objs.size, rawInt 0, .none, .none] }) rfl
    rw [hz] at this; exact this
  refine ⟨⟨_, he, rfl⟩, h _ he ⟨_, Heap.get?_push_of_some _ (Heap.get?_push_size _ rfl), rfl, rfl⟩ (by rw [Heap.size_push, hz]) fun b o x => Heap.get?_push_of_some _ (Heap.get?_push_of_some _ x)⟩
theorem wpAny_pyNext_enum_endT {e it l : Addr} {i : Nat} {items : Array Value} {old : Value} {Q : Option Value → Shared → Prop} (hh : A.handled = none)
    (he : IsEnum s.heap e it i old) (hit : s.heap.IsTupleIter it l i) (hl : s.heap.IsTuple l items) (hx : items[i]? = none)
    (hQ : ∀ h', Heap.ExtBut it s.heap h' → Q none { s with heap := h' }) : wpAny (model prog w) A (pyNext (.ref e)) Q E s := by
  have hT : s.TypeIs (.ref e) "enumerate" := ⟨_, he, rfl⟩
  unfold pyNext
  refine wpAny_bind (wpAny_attempt (wpAny_callSpecial?_slot (name := Str.ofString "__next__") hT F.slot_enumerate_next
    (wpAny_call_entry F.slot_enumerate_next hT F.entry_enumerate_next ?_ (F.args_enumerate_next_1 _))))
  show wpAny _ _ (field (.ref e) 2 >>= _) _ _ _
  refine wpAny_bind (wpAny_field he rfl (x := .ref it) rfl ?_)
  refine wpAny_bind (wpAny_nextOf_tuple_end hh hit hl hx fun h' x he' hx' => ?_)
  obtain ⟨o, ho, hc⟩ := hx'
  refine wpAny_bind (wpAny_isInstance (T := "StopIteration") (b := true) ⟨o, ho, hc⟩ isSubtype_stop ?_)
  exact wpAny_pure (hQ _ he')
end
end PySem
namespace L2
open PySem PySem.Spec PyProof.Rows
/-- the tuple at a as it stands at each turn, each item in a new pair with its number -/
def IteT (K : PySem.W.Frag) (a : Addr) : It :=
  ⟨fun i H => ∃ (xs : List V) (x : V), SqT K H a xs ∧ xs[i]? = some x, fun i H v H' => ∃ T x, v = .ref T ∧ H T = none ∧ H' = upd H T (.tup [.int (i : Nat), x]) ∧ ∀ xs, SqT K H a xs → xs[i]? = some x, fun i H => ∃ xs : List V, SqT K H a xs ∧ xs.length ≤ i⟩
theorem turn_enumT {P : Program} {w : World} {K : PySem.W.Frag} {elts : List Expr} {kk : Nat} {tpos : Pos} (a e it : Addr) :
    Turn P w K (.Tuple elts kk tpos) (IteT K a) [e, it] e (fun i h => (∃ old, IsEnum h e it ((i : Nat) : Int) old) ∧ h.IsTupleIter it a i ∧ e ≠ it ∧ a ≠ it ∧ e ≠ a) where
  mem := by simp
  obj := fun i h st b hb => by
    obtain ⟨⟨old, he⟩, ⟨o, ho, hc, hd⟩, _⟩ := st
    have e' : b = e ∨ b = it := by simpa using hb
    rcases e' with z | z
    · rw [z]; exact ⟨_, he, fun v q => nomatch q⟩
    · rw [z]; exact ⟨o, ho, fun v q => by rw [hd] at q; cases q⟩
  keep := fun i h h' st k => let ⟨⟨old, he⟩, hi, hne⟩ := st; ⟨⟨old, k e (by simp) _ he⟩, hi.at fun o q => k it (by simp) o q, hne⟩
  item := by
    intro X hP hw hK hc i pins s σ H E I hf st hg
    subst hP hw hK
    obtain ⟨⟨old, he⟩, hit, hne, hai, hea⟩ := st
    obtain ⟨xs, x, hq, hx⟩ := hg
    obtain ⟨its, rv, p, hz⟩ := I.tuple hq
    obtain ⟨u, hu, ru⟩ := rv.get hx
    have hel : e < s.heap.objs.size := Heap.lt_size he
    have hil : it < s.heap.objs.size := by obtain ⟨_, q, _⟩ := hit; exact Heap.lt_size q
    have hlt : i < its.toArray.size := by
      rw [List.size_toArray]
      exact (List.getElem?_eq_some_iff.mp hu).1
    refine wpAny_pyNext_enum_itemD (Draws.tuple (A := X.A.in1) (I.ok.hd hc) it a hai its.toArray) he ⟨hit, p⟩ hlt hne (by simp [hne, hea]) fun x' h' tk hx' ho st' hT hsz hk => ?_
    obtain ⟨hit', _⟩ := st'
    obtain rfl : x' = u := by
      have q : its[i]? = some x' := by simpa using hx'
      rw [hu] at q
      exact (Option.some.inj q).symm
    refine ⟨_, rfl, wpAny_letOwnedTupleGo_enum (s := { s with heap := h', toks := tk + 1 }) ho fun h'' he' sb => ?_⟩
    have hT2 : h''.get? s.heap.objs.size = some { cls := .type "tuple", data := .seq #[.int i tk, x'] } := (sb.2 _ (Nat.ne_of_gt hel)).trans hT
    have new : ObjOk X.prog X.w (upd H s.heap.objs.size (.tup [.int (i : Nat), x])) h'' s.heap.objs.size (.tup [.int (i : Nat), x]) :=
      ⟨by show 2 ≤ sizeLine; decide, [.int i tk, x'], .cons ⟨_, rfl⟩ (.cons ru .nil), ⟨_, hT2, rfl, _, rfl⟩⟩
    have I1 : Inv X pins σ (upd H s.heap.objs.size (.tup [.int (i : Nat), x])) { s with heap := h'', toks := tk + 1 } :=
      I.turnedNew (ch := [e, it]) (fun b ob hb q => (sb.2 b (fun z => hb (by simp [z]))).trans (hk b ob (fun z => hb (by simp [z])) (fun z => hb (by simp [z])) q)) hf (Nat.le_refl _) new
    refine ⟨.ref s.heap.objs.size, _, I1, rfl, ⟨_, x, rfl, I.hok.fresh (Nat.le_refl _), rfl, fun ys hy => by rw [I.tuple_inj hy hq]; exact hx⟩, ⟨⟨x', ?_⟩, hit'.at fun o q => (sb.2 it (Ne.symm hne)).trans q, hne, hai, hea⟩, fun b hb => ?_⟩
    · have e1 : ((i + 1 : Nat) : Int) = (i : Int) + 1 := by omega
      rw [e1]; exact he'
    · have hb' : b < s.heap.objs.size := by
        have e' : b = e ∨ b = it := by simpa using hb
        rcases e' with z | z
        · rw [z]; exact hel
        · rw [z]; exact hil
      rw [upd_ne (Nat.ne_of_lt hb')]
      exact (hf b hb).1
  done := by
    intro X hP hw hK hc i pins s σ H E I hf st hg
    subst hP hw hK
    obtain ⟨⟨old, he⟩, hit, hne, hai, hea⟩ := st
    obtain ⟨xs, hq, hx⟩ := hg
    obtain ⟨its, rv, p, hz⟩ := I.tuple hq
    obtain ⟨f0, f1, f2, f3, f4, f5⟩ := hf it (by simp)
    have hl := rv.length
    exact wpAny_pyNext_enum_endT (I.ok.hd hc) he hit p (by simp; omega) fun h' eb => ⟨rfl, I.turned (t' := s.toks) (fun b o hb q => eb b o hb q) f0 f1 f3 f4 f5⟩
  self := fun A i s Q E st h => let ⟨⟨_, he⟩, _⟩ := st; wpAny_pyIter_enum he h
def iEnumT (K : PySem.W.Frag) (ta : TA) : TI := fun σ H R => ta σ H fun vs H1 => ∃ a xs, vs = [.ref a] ∧ SqT K H1 a xs ∧ R (IteT K a) H1
theorem pi_enumT {X : Cx} {e : Expr} {ta : TA} {p pos tpos : Pos} {elts : List Expr} {kk : Nat} (hg : Gl X "enumerate") (hm : X.mg "enumerate" = none) (ha : PA X [e] ta) (hs : starEach [e] X.env = [(false, eval e X.env)] := by rfl) :
    PI X (.Tuple elts kk tpos) (.Call (.Name "enumerate" p) [e] [] pos) (iEnumT X.K ta) := by
  refine ⟨fun pins s σ H R I h => ?_⟩
  refine Call_ (ld_blt I hg hm boot_enumerate (PyProof.Rows.callWith_type1 (thn (ha.run pos pins s σ H _ I h) fun us s1 ⟨vs, H1, I1, r1, q1⟩ => ?_) hs rfl))
  obtain ⟨a, xs, ex, hq, q⟩ := q1
  subst ex
  cases r1 with
  | cons r rr =>
    cases rr
    cases r
    obtain ⟨its, rv, p', hz⟩ := I1.tuple hq
    have hal : a < s1.heap.objs.size := by obtain ⟨_, q, _⟩ := p'; exact Heap.lt_size q
    refine call_enumerate_tuple p' fun h' he hit hsz hk => wpAny_pyIter_enum he ?_
    have I2 : Inv X pins σ H1 { s1 with heap := h' } := I1.kept (t' := s1.toks) hk
    refine ⟨s1.heap.objs.size + 1, [s1.heap.objs.size + 1, s1.heap.objs.size], _, _, H1, rfl, I2, turn_enumT a (s1.heap.objs.size + 1) s1.heap.objs.size, ⟨⟨.none, he⟩, hit, Nat.succ_ne_self _, Nat.ne_of_lt hal, Ne.symm (Nat.ne_of_lt (Nat.lt_succ_of_lt hal))⟩, fun b hb => ?_, q⟩
    have e' : b = s1.heap.objs.size + 1 ∨ b = s1.heap.objs.size := by simpa using hb
    have hle : s1.heap.objs.size ≤ b := by
      rcases e' with z | z
      · rw [z]; exact Nat.le_add_right _ _
      · rw [z]; exact Nat.le_refl _
    exact I1.fpOk hle (I1.hok.fresh hle)
end L2


set_option Elab.async false
set_option linter.all false
set_option maxRecDepth 100000
set_option maxHeartbeats 4000000
set_option autoImplicit false
namespace L2
open PySem PySem.Spec PyProof.Rows
section
variable {X : Cx}
theorem mk_endN {pins : List (Addr × Obj)} {σ : St} {H1 H2 : Hp} {Q : XK} {hp hp2 h2 : Heap} {g1 g2 : Array GenState} {d1 d2 : Drawn} {t1 t2 : Nat} {os1 os2 : OsState} {a C : Addr} (T : Raises X (.ref C)) (I1 : Inv X pins σ H1 ⟨hp, g1, d1, t1, os1⟩)
    (ha : hp.objs.size ≤ a) (k : ∀ b o, hp.get? b = some o → hp2.get? b = some o) (un : Un (frs X.stack) [] (upd H1 a (exo a C none)) H2 hp2 h2) (hok : HOk X.prog X.w H2 h2) (ho : os2 = os1) (hb : AllBare g2)
    (e2 : H2 = upd H1 a (exo a C none)) (q : Q (.ref C) none H1) : MkP X pins σ Q (.ref a) ⟨h2, g2, d2, t2, os2⟩ := by
  have ea : H2 a = some (exo a C none) := by rw [e2]; exact upd_same
  obtain ⟨t0, hoe⟩ := exo_at hok ea
  have hn : H1 a = none := I1.hok.fresh ha
  obtain ⟨G, g1', g2'⟩ := restrict h2 fun b => decide (b ≠ a)
  have gk : ∀ b, b ≠ a → G.get? b = h2.get? b := fun b hb => g1' b (decide_eq_true hb)
  have ge : G.get? a = none := g2' a (by simp)
  have nha : ∀ {b : Addr} {o : Obj}, hp.get? b = some o → b ≠ a := fun {b o} z => Nat.ne_of_lt (Nat.lt_of_lt_of_le (Heap.lt_size z) ha)
  have up : ∀ {b : Addr}, b ≠ a → H1 b = none → upd H1 a (exo a C none) b = none := fun {b} hb n => by rw [upd_ne hb]; exact n
  have dn : del H2 a = H1 := by
    funext b
    by_cases z : b = a
    · subst z; rw [del_same, hn]
    · rw [del_ne z, e2, upd_ne z]
  have U : Un (frs X.stack) [] H1 (del H2 a) hp G := {
    keep := fun b o z n hf hx => by
      rw [gk b (nha z)]
      exact un.keep b o (k b o z) (up (nha z) n) hf hx
    slot := fun b o z n hf hx => by
      rw [gk b (nha z)]
      exact un.slot b o (k b o z) (up (nha z) n) hf hx
    free := fun b o z n hx => by
      rw [del_ne (nha z)]
      exact un.free b o (k b o z) (up (nha z) n) hx
    there := fun b o z hx => by
      rw [gk b (nha z)]
      exact un.there b o (k b o z) hx
    tups := fun b xs z => by
      rw [del_ne (ne_of_none z hn)]
      exact un.tups b xs (by rw [upd_ne (ne_of_none z hn)]; exact z)
    frzs := fun b o v z => by
      rw [del_ne (ne_of_none z hn)]
      exact un.frzs b o v (by rw [upd_ne (ne_of_none z hn)]; exact z)
    tbls := fun b ps z => by
      rw [del_ne (ne_of_none z hn)]
      exact un.tbls b ps (by rw [upd_ne (ne_of_none z hn)]; exact z) }
  have hok3 : HOk X.prog X.w (del H2 a) G := fun b o z => by
    have hba : b ≠ a := fun e => by
      rw [e, del_same] at z
      cases z
    rw [del_ne hba] at z
    have noa : ∀ {c : Addr}, H2 c = some (.own b) → c ≠ a := fun {c} hc => at_ne ea hc exo_own
    exact (hok b o z).stay (fun c v hc y => by
        have hca : c ≠ a := by
          rcases hc with hc | hc
          · rw [hc]
            exact hba
          · exact noa hc
        rw [gk c hca]
        exact y)
      (fun c hc => by rw [del_ne (noa hc)]; exact hc) (fun c xs hc => by rw [del_ne (at_ne ea hc exo_tup)]; exact hc)
  have J : Inv X pins σ (del H2 a) ⟨G, g2, d2, t2, os2⟩ := I1.call' (ch := []) ho U hok3 hb (fun b z => absurd z (by simp))
  rw [dn] at J
  refine ⟨a, _, _, ⟨G, g2, d2, t2, os2⟩, _, .ref C, none, rfl, J, fun b o z => ?_, ge, hoe, ⟨rfl, rfl⟩, rfl, rfl, hn, rfl, hb, T, q⟩
  by_cases hba : b = a
  · rw [hba, ge] at z
    cases z
  · exact (gk b hba).symm.trans z
/-- C() of an own exception whose __init__ does nothing -/
def spInitN : Sp := fun vs H Q _ => ∃ a : Addr, vs = [.ref a] ∧ Q .non H
def tMkN (C : Addr) : St → Hp → XK → Prop := fun _ H Q => Q (.ref C) none H
theorem pmk_oexN {CX : CXT} {x : Str} {C fI : Addr} {k : Nat} {fd : FuncData} {ps : List Str} {p pos : Pos} (T : OexC X.K C) (iC : PySem.W.findIn X.K (.ref C) "__init__" = some (some (.ref fI))) (tI : PySem.W.typeIn X.K (.ref fI) = some (.type "function"))
    (F1 : FnOk X.prog X.w X.K X.mg X.base CX k fI fd ps spInitN) (hr : Room (k + 1) X.A) (hb : Binds X.K fd ps []) (hx : Passes CX X (fun _ _ _ => False)) (hg : Gl X x) (hm : X.mg x = some (.ref C))
    (hdb : (x == ("__debug__" : Str)) = false := by decide) :
    PMk X (.Call (.Name x p) [] [] pos) (tMkN C) := by
  intro pins s1 σ H1 Q I1 h
  obtain ⟨nm, q, N, bs, bm, sn, sub, ab, col, dd, k0, k1, k2, k3, k5, hC, hbm⟩ := T.cls
  refine wpAny_Call_Name_kw (ld_glob I1 hg hm ?_ hdb)
  refine PySem.W.callWith_K0 I1.kIn T.kC ?_
  show wpAny _ _ (call (.ref C) []) _ _ _
  obtain ⟨hp, g, dr, tk, os⟩ := s1
  have hsz : hp.objs.size ≤ hp.objs.size + 1 := Nat.le_succ _
  have hn : H1 (hp.objs.size + 1) = none := I1.hok.fresh hsz
  have kk : ∀ b o, hp.get? b = some o → ((hp.push (PySem.W.kdv_tup [])).push (PySem.HandSPX.excO C hp.objs.size)).get? b = some o := fun b o e => Heap.get?_push_of_some _ (Heap.get?_push_of_some _ e)
  have hget : ((hp.push (PySem.W.kdv_tup [])).push (PySem.HandSPX.excO C hp.objs.size)).get? (hp.objs.size + 1) = some (PySem.HandSPX.excO C hp.objs.size) := by heap_get
  have I2 : Inv X pins σ (upd H1 (hp.objs.size + 1) (exo (hp.objs.size + 1) C none)) ⟨(hp.push (PySem.W.kdv_tup [])).push (PySem.HandSPX.excO C hp.objs.size), g, dr, tk, os⟩ :=
    I1.laid (t' := tk) (a := hp.objs.size + 1) (o := exo (hp.objs.size + 1) C none) (h' := (hp.push (PySem.W.kdv_tup [])).push (PySem.HandSPX.excO C hp.objs.size)) kk hsz (exo_ok hget)
  have hq : spInitN [V.ref (hp.objs.size + 1)] (upd H1 (hp.objs.size + 1) (exo (hp.objs.size + 1) C none)) (fun v H2 => v = .non ∧ H2 = upd H1 (hp.objs.size + 1) (exo (hp.objs.size + 1) C none)) (fun _ _ _ => False) := ⟨_, rfl, rfl, rfl⟩
  have r2 : Vals [V.ref (hp.objs.size + 1)] [Value.ref (hp.objs.size + 1)] := .cons rfl .nil
  have hl : ([Value.ref (hp.objs.size + 1)] ++ ([] : List Value)).length = ps.length := by
    rw [← F1.len _ _ _ _ hq]; rfl
  refine wpAny_call (PySem.HandSPX.call_own F.excBase_ValueError (fun Y => PySem.HandSPX.refsVE_contains Y bm hbm) (I1.kIn _ _ hC) (PySem.W.looks_findIn I1.kIn iC) (fun self => PySem.W.bind_fn I1.kIn self tI) (by show 0 ≤ sizeLine; decide)
    (codeAny_mono (F1.run _ X.stack _ _ ⟨[Value.ref (hp.objs.size + 1)], []⟩ [Value.ref (hp.objs.size + 1)] _ _ (fun _ _ _ => False) (hr.make C [] []) (I2.env0.make C [] []) (hb _ [Value.ref (hp.objs.size + 1)] I2.kIn hl) r2 hq) fun r s' hq' => ?_))
  cases r with
  | error er => exact hx pins σ _ _ er s' I2 hq'
  | ok fl =>
    cases fl with
    | ret u =>
      obtain ⟨v, H2, os2, bare2, un2, hok2, rv, ev, e2⟩ := hq'
      subst ev
      obtain ⟨h2, g2, d2, t2, os'⟩ := s'
      exact ⟨rv, mk_endN (raises_own T.exC T.tyC) I1 hsz kk un2 hok2 os2 bare2 e2 h⟩
    | next => exact False.elim hq'
    | brk => exact False.elim hq'
    | cont => exact False.elim hq'
end
end L2


set_option Elab.async false
set_option linter.all false
set_option maxRecDepth 100000
set_option maxHeartbeats 1000000
set_option autoImplicit false
namespace HT
open PySem PySem.Spec PyProof.Rows
section
variable {prog : Program} {w : World} {A : Around} {E : Value → Shared → Prop} {s : Shared}
theorem adjust_rev (n : Nat) : Builtin.Slice.sliceAdjust none none (-1) (n : Int) = ((n : Int) - 1, -1) := by
  unfold Builtin.Slice.sliceAdjust
  have h1 : ((-1 : Int) < 0) := by omega
  simp only [h1, if_true]
theorem places_rev (n : Nat) : Builtin.Slice.slicePlaces ((n : Int) - 1) (-1) (-1) = n := by
  unfold Builtin.Slice.slicePlaces
  have h1 : ¬ ((-1 : Int) > 0) := by omega
  simp only [h1, if_false]
  split <;> (try simp) <;> omega
theorem sliceApplied_rev {sl : Addr} {n : Nat} {t : Tok} {Q : Int × Int × Nat → Shared → Prop} (hs : s.heap.IsSliceOf sl .none .none (.int (-1) t))
    (h : Q ((n : Int) - 1, -1, n) s) : wpAny (model prog w) A (Builtin.Slice.sliceApplied (.ref sl) (pure (n : Int))) Q E s := by
  obtain ⟨os, hos, hcs, hds⟩ := id hs
  unfold Builtin.Slice.sliceApplied Builtin.Slice.sliceFields
  refine wpAny_bind (wpAny_bind (wpAny_field hos hds (x := .none) rfl (wpAny_bind (wpAny_field hos hds (x := .none) rfl (wpAny_bind (wpAny_field hos hds (x := .int (-1) t) rfl (wpAny_pure ?_)))))))
  refine wpAny_bind (slicePart_ (.int (-1) t) ?_)
  show wpAny _ _ (if ((-1 : Int) == 0) = true then _ else _) _ _ s
  rw [if_neg (by decide)]
  refine wpAny_bind (slicePart_ .none (wpAny_bind (slicePart_ .none (wpAny_bind (wpAny_pure ?_)))))
  show wpAny _ _ (match Builtin.Slice.sliceAdjust none none (-1) (n : Int) with | (lo, hi) => pure (lo, (-1 : Int), Builtin.Slice.slicePlaces lo hi (-1))) _ _ s
  rw [adjust_rev n]
  show wpAny _ _ (pure ((n : Int) - 1, (-1 : Int), Builtin.Slice.slicePlaces ((n : Int) - 1) (-1) (-1))) _ _ s
  rw [places_rev]
  exact wpAny_pure h
theorem fm_congr {α β : Type} {f g : α → Option β} : ∀ l : List α, (∀ x ∈ l, f x = g x) → l.filterMap f = l.filterMap g
  | [], _ => rfl
  | x :: l, h => by
    have e := h x List.mem_cons_self
    have r := fm_congr l fun y hy => h y (List.mem_cons_of_mem _ hy)
    rw [List.filterMap_cons, List.filterMap_cons, e, r]
theorem pick_rev (xs : Array Value) : ((List.range xs.size).filterMap fun (m : Nat) => xs[(((xs.size : Int) - 1) + (m : Int) * (-1)).toNat]?).toArray = xs.toList.reverse.toArray := by
  have e : (List.range xs.size).filterMap (fun (m : Nat) => xs[(((xs.size : Int) - 1) + (m : Int) * (-1)).toNat]?) = (List.range xs.size).filterMap ((xs[·]?) ∘ fun k => xs.size - 1 - k) :=
    fm_congr _ fun m hm => by
      have hm := List.mem_range.mp hm
      have e1 : (((xs.size : Int) - 1) + (m : Int) * (-1)).toNat = xs.size - 1 - m := by omega
      rw [e1]; rfl
  rw [e, ← List.filterMap_map, PySem.W.krv_range, List.filterMap_reverse, PySem.W.krv_all]
theorem getItem_tuple_rev {t sl : Addr} {items : Array Value} {u : Tok} {Q : Value → Shared → Prop} (ht : IsTup s.heap t items) (hs : s.heap.IsSliceOf sl .none .none (.int (-1) u))
    (h : Q (.ref s.heap.objs.size) { s with heap := s.heap.push { cls := .type "tuple", data := .seq items.toList.reverse.toArray } })
    (hsz : items.size ≤ sizeLine) : wpAny (model prog w) A (getItem (.ref t) (.ref sl)) Q E s := by
  have htake : sizeOk (.seq items.toList.reverse.toArray) := by
    show items.toList.reverse.toArray.size ≤ sizeLine
    rw [List.size_toArray, List.length_reverse, Array.length_toList]
    omega
  obtain ⟨os, hos, hcs, hds⟩ := id hs
  have hTs : s.TypeIs (.ref sl) "slice" := ⟨os, hos, hcs⟩
  unfold getItem
  try with_reducible refine wpAny_holding ?_
  first | refine wpAny_bind (wpAny_pure ?_) | skip
  refine wpAny_bind (wpAny_sequenceKey ht.typeIs (by decide) ?_)
  refine wpAny_bind (wpAny_callSpecial?_slot (name := Str.ofString "__getitem__") ht.typeIs PyProof.Rows.slot_tuple_getitem
    (wpAny_call_entry PyProof.Rows.slot_tuple_getitem ht.typeIs entry_tuple_getitem ?_ (args_tuple_getitem _ _)))
  show wpAny _ _ (Builtin.Tuple.tupleItemsOf (.ref t) >>= _) _ _ s
  refine wpAny_bind (tupleItemsOf_ ht ?_)
  refine wpAny_bind (wpAny_typeOf hTs ?_)
  rw [if_pos (by decide)]
  refine wpAny_bind (sliceApplied_rev hs ?_)
  have hno : ¬ ((((items.size : Int) - 1) == 0 && (-1 : Int) == 1 && items.size == items.size) = true) := by
    intro q
    rw [Bool.and_eq_true, Bool.and_eq_true] at q
    exact absurd q.1.2 (by decide)
  show wpAny _ _ (if (((items.size : Int) - 1) == 0 && (-1 : Int) == 1 && items.size == items.size) = true then _ else _) _ _ s
  rw [if_neg hno, pick_rev]
  first
    | exact wpAny_bind (m := Builtin.Tuple.tupleExact _) (wpAny_newObj_type (wpAny_pure ⟨_, rfl, wpAny_pure h⟩) htake)
    | exact wpAny_bind (m := Builtin.Tuple.tupleExact _) (wpAny_newObj_type (wpAny_bind (wpAny_pure (wpAny_pure ⟨_, rfl, wpAny_pure h⟩))) htake)
    | exact wpAny_bind (wpAny_bind (m := Builtin.Tuple.tupleExact _) (wpAny_newObj_type (wpAny_pure (wpAny_pure ⟨_, rfl, wpAny_pure h⟩)) htake))
    | exact wpAny_bind (wpAny_bind (m := Builtin.Tuple.tupleExact _) (wpAny_newObj_type (wpAny_pure ⟨_, rfl, wpAny_pure h⟩) htake))
end
end HT
namespace L2
open PySem PySem.Spec PyProof.Rows
section
variable {X : Cx}
/-- set(t), t a tuple of ints -/
def rSetT (K : PySem.W.Frag) (w : World) : List V → Hp → VK → Prop := fun xs H Q => ∃ (l : Addr) (ns : List Int), xs = [.ref l] ∧ SqT K H l (ns.map V.int) ∧ ns.length ≤ 1000 ∧
  ∀ a n, n ≤ ns.length → H a = none → Q (.ref a) (upd H a (SetO w a (fun j => decide (j ∈ ns)) n))
theorem cr_setT (hc : X.calm = true) : CallR X (.type "set") (rSetT X.K X.w) := by
  intro pins s σ H xs us Q I r h
  obtain ⟨l, ns, rfl, hq, hl, q⟩ := h
  obtain ⟨u, rfl, ru⟩ := vals1 r
  cases ru
  obtain ⟨its, rv, pt, hz⟩ := I.tuple hq
  have hi : IntsAre its.toArray.toList ns := ints_of_vals rv
  refine call_set_tupI ns (I.ok.hd hc) (show s.heap.IsTuple l its.toArray from pt) hi (by unfold scanBound; omega) fun h' tk c R1 hcn k => ?_
  exact ⟨.ref s.heap.objs.size, _, I.laid (t' := tk) (h' := h') (o := SetO X.w s.heap.objs.size (fun j => decide (j ∈ ns)) c) k (Nat.le_refl _) (setO_new R1), rfl, q _ c hcn (I.hok.fresh (Nat.le_refl _))⟩
def tRevT (K : PySem.W.Frag) (te : TE) : TE := fun σ H Q => te σ H fun x H1 => ∃ a xs, x = .ref a ∧ SqT K H1 a xs ∧ ∀ p, H1 p = none → Q (.ref p) (upd H1 p (.tup xs.reverse))
theorem pe_revT {e : Expr} {te : TE} {k : Nat} {p1 p2 p3 pos : Pos} (he : PE X e te) : PE X (.Subscript e (.Slice none none (some (.UnaryOp .USub (.Constant (.int 1) k p1) p2)) p3) pos) (tRevT X.K te) := by
  refine ⟨fun pins s σ H Q I h => ?_⟩
  refine Subscript_ (thn (he.run pins s σ H _ I h) fun v s1 ⟨x, H1, I1, r1, q1⟩ => ?_)
  obtain ⟨a, xs, ex, hx, q⟩ := q1
  subst ex
  cases r1
  have hst : PO X (some (.UnaryOp .USub (.Constant (.int 1) k p1) p2)) (tPart (tUn (rU fun i => .int (-i)) (tC (.int 1)))) := po_some (pe_un un_neg pe_int)
  refine wpAny_Slice (thn (po_none.run pins s1 σ H1 (fun o H2 => o = none ∧ H2 = H1) I1 ⟨rfl, rfl⟩) fun vl s2 ⟨l, H2, I2, pl, el, e2⟩ => ?_)
  subst el e2
  refine thn (po_none.run pins s2 σ H2 (fun o H3 => o = none ∧ H3 = H2) I2 ⟨rfl, rfl⟩) fun vu s3 ⟨u, H3, I3, pu, eu, e3⟩ => ?_
  subst eu e3
  refine thn (hst.run pins s3 σ H3 (fun o H4 => o = some (-1) ∧ H4 = H3) I3 ⟨1, rfl, -1, rfl, rfl, rfl⟩) fun vs s4 ⟨o, H4, I4, ps, eo, e4⟩ => ?_
  subst eo e4
  cases pl
  cases pu
  cases ps with
  | int _ tt =>
  have I5 : Inv X pins σ H4 { s4 with heap := s4.heap.push { cls := .type "slice", data := .fields #[.none, .none, .int (-1) tt] } } := I4.kept (t' := s4.toks) fun b ob q => Heap.get?_push_of_some _ q
  obtain ⟨its, r, ht, hz⟩ := I5.tuple hx
  have hlen := r.length
  show wpAny (model X.prog X.w) X.A (subscriptTail e (.Slice none none (some (.UnaryOp .USub (.Constant (.int 1) k p1) p2)) p3) (.ref a) (.ref s4.heap.objs.size)) (EP X pins σ Q) X.xe { s4 with heap := s4.heap.push { cls := .type "slice", data := .fields #[.none, .none, .int (-1) tt] } }
  refine tail_any (ops := [.ref a, .ref s4.heap.objs.size]) ht.typeIs (PyProof.Rows.slot_tuple_getitem.lookup) ?_ (by with_unfolding_all rfl)
  refine HT.getItem_tuple_rev ht (Heap.IsSliceOf.new _ .none .none (.int (-1) tt)) ?_ (by rw [List.size_toArray]; omega)
  refine ⟨.ref _, _, I5.laid (t' := s4.toks) (o := .tup xs.reverse) (fun b ob q => Heap.get?_push_of_some _ q) (Nat.le_refl _) ?_, rfl, q _ (I5.hok.fresh (Nat.le_refl _))⟩
  exact ⟨by rw [List.length_reverse]; exact hz, _, r.reverse, IsTup.new _ _⟩
end
end L2
namespace Hc
open PySem L2
/-- [f(a, b) for a, b in zip(s, t)]: two tuples, perhaps of unlike lengths -/
theorem lc_zipT {K : PySem.W.Frag} {a b : Addr} {xs ys : List V} {g : TG} {tt : TT} {te : TE} {vs : List Nat} {σ : St} {H1 : Hp} {D : Addr} {Qd : Hp → Prop} (Pv : Nat → Hp → Prop) (h0 : Pv 0 (upd H1 D (.lst [])))
    (hl : ∀ i H, Pv i H → SqT K H a xs ∧ SqT K H b ys)
    (hs : ∀ (i : Nat) (x y : V) (T : Addr) (H : Hp), xs[i]? = some x → ys[i]? = some y → Pv i H → H T = none → g (.ref T) (wipe σ vs) (upd H T (.tup [x, y])) fun σ2 H2 => wipe σ2 vs = wipe σ vs ∧ tt σ2 H2 fun b H3 =>
      if b = true then te σ2 H3 fun y H4 => ∃ acc, H4 D = some (.lst acc) ∧ acc.length < sizeLine ∧ Pv (i + 1) (upd H4 D (.lst (acc ++ [y]))) else Pv (i + 1) H3) (hd : ∀ H, Pv (min xs.length ys.length) H → Qd H) :
    ∃ W : Nat → Nat → Hp → Prop, (∃ m, W 0 m (upd H1 D (.lst []))) ∧ ∀ i m H, W i m H →
      ((RZ.ItzT K a b).stop i H ∧ Qd H) ∨ ((RZ.ItzT K a b).go i H ∧ ∃ Nx : Hp → Prop, (∀ H', Nx H' → ∃ m', m' < m ∧ W (i + 1) m' H') ∧ ∀ x H', (RZ.ItzT K a b).yld i H x H' → g x (wipe σ vs) H' fun σ2 H2 => wipe σ2 vs = wipe σ vs ∧ tt σ2 H2 fun b H3 =>
        if b = true then te σ2 H3 fun y H4 => ∃ acc, H4 D = some (.lst acc) ∧ acc.length < sizeLine ∧ Nx (upd H4 D (.lst (acc ++ [y]))) else Nx H3) := by
  refine ⟨fun i m H => m = min xs.length ys.length - i ∧ i ≤ min xs.length ys.length ∧ Pv i H, ⟨_, rfl, Nat.zero_le _, h0⟩, ?_⟩
  rintro i m H ⟨rfl, hi, p⟩
  obtain ⟨qx, qy⟩ := hl i H p
  by_cases hlt : i < min xs.length ys.length
  · have h1 : i < xs.length := by omega
    have h2 : i < ys.length := by omega
    refine .inr ⟨⟨xs, ys, _, _, qx, qy, List.getElem?_eq_getElem h1, List.getElem?_eq_getElem h2⟩, Pv (i + 1), fun H' p' => ⟨min xs.length ys.length - (i + 1), by omega, rfl, hlt, p'⟩, fun v H' y => ?_⟩
    obtain ⟨T, x', y', rfl, hT, rfl, f1, f2⟩ := y
    exact hs i x' y' T H (f1 xs qx) (f2 ys qy) p hT
  · have e : i = min xs.length ys.length := by omega
    subst e
    refine .inl ⟨⟨xs, ys, qx, qy, ?_⟩, hd H p⟩
    omega
end Hc


set_option Elab.async false
set_option linter.all false
set_option maxRecDepth 100000
set_option maxHeartbeats 2000000
set_option autoImplicit false
namespace L2
open PySem PySem.Spec PyProof.Rows
/-- what the first clause, 'except x as n', wishes of an exception that is its own; slot i is n's -/
def wAs1 (K : PySem.W.Frag) (c : Value) (i : Nat) (ts : Addr → Value → Option Addr → TS) (D : Ends) : WX := fun cls d σ H =>
  PySem.W.exmOne K cls c = some true ∧ ∀ a, H a = none → ts a cls d { nx := fun σ' H' => D.nx (σ'.set i none) H', rt := D.rt, bk := fun σ' H' => D.bk (σ'.set i none) H', ct := fun σ' H' => D.ct (σ'.set i none) H' } (σ.set i (some (.ref a))) H
section
variable {X : Cx} {x n : Str} {c : Value} {i : Nat} {body suite : List Stmt} {b₀ : Stmt} {np pos pos' : Pos} {tb : WX → TS} {ts : Addr → Value → Option Addr → TS} {more : List ExceptHandler}
theorem ps_try_as1 (hs : X.stack = X.env :: X.outer) (hf : X.env.frame = some X.env.locals) (hN : X.N.Nodup) (hi : X.N[i]? = some n) (hln : X.env.kindOf n = some .local) (hc : Names X x c)
    (hb : ∀ (W : WX) (pn : List (Addr × Obj)) (xe : Value → Shared → Prop), Takes (X.tr pn xe) W → PassesOwn (model X.prog X.w) X.A X.env xe → PSs (X.tr pn xe) body (tb W))
    (hsu : ∀ (a : Addr) (oe : Obj) (cls : Value) (d : Option Addr) (pn : List (Addr × Obj)), Zc cls d oe → (∃ vs, oe.data = .fields vs) → PSs (X.suite a ((a, oe) :: pn)) (b₀ :: suite) (ts a cls d)) :
    PS X (.Try body (.ExceptHandler (some (.Name x np)) (some n) (b₀ :: suite) pos' :: more) [] [] pos) (fun D σ H => tb (wAs1 X.K c i ts D) D σ H) := by
  refine ⟨fun pins s σ H D I h => ?_⟩
  have ok := I.ok
  have hfr : X.A.frames = some (X.env :: X.outer) := by rw [ok.frames, hs]
  have hloc : Loc X.env.scope n := .inl hln
  refine wpAny_Try_except ?_
  refine wpAny_mono ((hb (wAs1 X.K c i ts D) (X.pn ++ pins) (fun e s₁ => wpAny (model X.prog X.w) X.A (noteFrame e X.env) (fun _ s₂ => wpAny (model X.prog X.w) X.A (setFlight e none) (fun _ s₃ =>
    wpAny (model X.prog X.w) X.A (handleBy e X.env (.ExceptHandler (some (.Name x np)) (some n) (b₀ :: suite) pos' :: more)) (SP X pins D) X.xe s₃) X.xe s₂) X.xe s₁) (fun u s' xx => ?_) PassesOwn.looking).run [] s σ H D (I.toTry _) h) (fun f s1 hsp => ?_) (fun e s1 he => he)
  · obtain ⟨a, B, sI, pins', σ', H', cls, d, rfl, J', nb, up, sky, na, os, ag, hb1, hyes⟩ := xx
    have J : Inv X pins σ' H' sI := J'.ofTry ok
    have sky' : Sky B (X.env :: X.outer) a (Zc cls d) X.env.locals s'.heap := by rw [← hs]; exact sky
    show wpAny (model X.prog X.w) X.A (noteFrame (.ref a) X.env) _ _ _
    refine Sky.land Zc.steady hfr hf sky' fun h3 fl3 up3 => ?_
    have J3 : Inv X pins σ' H' { s' with heap := h3 } := J.landed nb fl3.1 (up.trans up3) os ag
    obtain ⟨oe3, vs3, he3, hz3, hd3⟩ := fl3.there
    have nfr : a ∉ frs (X.env :: X.outer) := fun hm => by
      obtain ⟨_, o', e', hnf⟩ := fl3.2.2.1.mem hm
      rw [he3] at e'; cases e'
      exact hnf _ hd3
    have nL : a ≠ X.env.locals := fun z => nfr (List.mem_filterMap.mpr ⟨X.env, List.mem_cons_self, by rw [hf, z]⟩)
    have nF : a ∉ X.fs := fun hm => by
      obtain ⟨e, he, q⟩ := List.mem_filterMap.mp hm
      exact nfr (List.mem_filterMap.mpr ⟨e, List.mem_cons_of_mem _ he, q⟩)
    have S3 := J3.suite he3 hd3 na nL nF
    refine wpAny_handleBy_cons (codeAny_handlers_test ?_) (by intro q; cases q)
    have LT : PySem.W.Looks (model X.prog X.w) h3 (typeOf (.ref a)) cls := fun A Q E s k q => wpAny_typeOf_ref (k _ _ he3) (by rw [hz3.1]; exact q)
    have LM := PySem.W.exm_one (M := model X.prog X.w) (J3.kIn) LT hb1
    have test : ∀ {Q : Value → Shared → Prop} {E : Value → Shared → Prop}, Q c { s' with heap := h3 } → wpAny (model X.prog X.w) (X.A.mark (some (.ref a))) (eval (.Name x np) X.env) Q E { s' with heap := h3 } := fun {Q E} q => by
      obtain ⟨hg, hdbg, hm | ⟨hm, hv, hnn⟩⟩ := hc
      · exact ld_glob (X := X.suite a ((a, oe3) :: (X.pn ++ pins))) S3 hg hm q hdbg
      · exact ld_blt (X := X.suite a ((a, oe3) :: (X.pn ++ pins))) S3 hg hm hv q hnn hdbg
    refine test (LM.here ?_)
    refine codeAny_handlers_suite_as ?_
    refine HandSPX.lands_againZ fl3 fun h4 fl4 up4 => ?_
    have J4 : Inv X pins σ' H' { s' with heap := h4 } := J.landed nb fl4.1 ((up.trans up3).trans up4) os ag
    obtain ⟨oe4, vs4, he4, hz4, hd4⟩ := fl4.there
    have S4 := J4.suite he4 hd4 na nL nF
    refine store_ok (X := X.suite a ((a, oe4) :: (X.pn ++ pins))) (v := .ref a) S4 hN hi hloc rfl (fun s5 S5 => ?_) (.inr hln)
    refine wpAny_mono ((hsu a oe4 cls d (X.pn ++ pins) hz4 ⟨_, hd4⟩).run [] s5 _ H' _ S5 (hyes a na)) (fun f s6 hsp => ?_) (fun _ _ z => False.elim z)
    have end_ : ∀ {σ6 : St} {H6 : Hp} {Q : Shared → Prop}, Inv (X.suite a ((a, oe4) :: (X.pn ++ pins))) [] σ6 H6 s6 → (∀ s7, Inv X pins (σ6.set i none) H6 s7 → Q s7) →
        wpAny (model X.prog X.w) X.A (do bindName X.env n .none; unbindBehindTheSuite X.env n pos') (fun _ s7 => Q s7) X.xe s6 := fun {σ6 H6 Q} S6 hq => gone_ok (S6.unsuite ok) hN hi hln hq
    cases f with
    | next =>
      obtain ⟨σ6, H6, S6, q6⟩ := hsp
      exact end_ S6 fun s7 J7 => ⟨_, _, J7, q6⟩
    | brk =>
      obtain ⟨σ6, H6, S6, q6⟩ := hsp
      exact end_ S6 fun s7 J7 => ⟨_, _, J7, q6⟩
    | cont =>
      obtain ⟨σ6, H6, S6, q6⟩ := hsp
      exact end_ S6 fun s7 J7 => ⟨_, _, J7, q6⟩
    | ret u =>
      obtain ⟨v6, σ6, H6, S6, r6, q6⟩ := hsp
      exact end_ S6 fun s7 J7 => ⟨_, _, _, J7, r6, q6⟩
  · cases f with
    | next =>
      obtain ⟨σ', H', J', q⟩ := hsp
      exact wpAny_execs_nil ⟨σ', H', J'.ofTry ok, q⟩
    | brk =>
      obtain ⟨σ', H', J', q⟩ := hsp
      exact ⟨σ', H', J'.ofTry ok, q⟩
    | cont =>
      obtain ⟨σ', H', J', q⟩ := hsp
      exact ⟨σ', H', J'.ofTry ok, q⟩
    | ret u =>
      obtain ⟨v, σ', H', J', r, q⟩ := hsp
      exact ⟨v, σ', H', J'.ofTry ok, r, q⟩
end
end L2


set_option Elab.async false
set_option linter.all false
set_option maxRecDepth 100000
set_option maxHeartbeats 1000000
set_option autoImplicit false
namespace PyProof.Rows
open PySem PySem.Spec
section
variable {prog : Program} {w : World} {A : Around} {E : Value → Shared → Prop} {s : Shared}
theorem collect_tupleHo {l : Addr} {vs : List Value} {Q : List Value → Shared → Prop} (hl : s.heap.IsTuple l vs.toArray)
    (h : Q vs { s with heap := (s.heap.push (seqObj "list" #[] 0)).update s.heap.objs.size (Obj.mapSeq (· ++ vs.toArray)) }) (hsz : vs.length ≤ sizeLine) :
    wpAny (model prog w) A (collect (.ref l)) Q E s := by
  obtain ⟨o, ho, hc, n, hd⟩ := id hl
  unfold collect
  refine wpAny_bind (wpAny_runValue (codeAny_builtin entry_proto_collect' ?_))
  show wpAny _ _ (do again (.builtin "list.__iadd__" ⟨[← newList [], .ref l], []⟩)) _ _ s
  refine wpAny_bind (wpAny_newList (wpAny_pure ⟨Code.quiet_builtin _ (by decide +kernel), codeAny_builtin entry_list_iadd' ?_⟩))
  show wpAny _ _ (Builtin.List.listExtendWith (.ref s.heap.objs.size) (.ref l) (.ref s.heap.objs.size)) _ _ { s with heap := s.heap.push (seqObj "list" #[] 0) }
  unfold Builtin.List.listExtendWith
  have ho' : (s.heap.push (seqObj "list" #[] 0)).get? l = some o := Heap.get?_push_of_some _ ho
  refine wpAny_bind (wpAny_typeOf (T := "tuple") ⟨o, ho', hc⟩ ?_)
  have ht : (Value.type "tuple" == Value.type "tuple") = true := by rfl
  rw [if_pos (by rw [ht]; simp)]
  refine wpAny_bind (listItems_at ho' hd ?_)
  refine wpAny_bind (listItems_at (xs := #[]) (n := 0) (Heap.get?_push_size _ rfl) rfl ?_)
  rw [if_neg (by simp)]
  refine wpAny_bind (listUpdate_at (xs := #[]) (n := 0) (Heap.get?_push_size _ rfl) rfl ?_ (Nat.zero_le _) (by show (#[] ++ vs.toArray).size ≤ sizeLine + 1; simp only [Array.size_append, List.size_toArray, List.length_nil]; omega))
  refine wpAny_pure ?_
  show wpAny (model prog w) A (do
      let o ← load s.heap.objs.size
      match o.data with
      | .seq xs _ => pure xs.toList
      | _ => unsupported "internal:collect") Q E { s with heap := (s.heap.push (seqObj "list" #[] 0)).update s.heap.objs.size (Obj.mapSeq (· ++ vs.toArray)) }
  refine wpAny_bind (wpAny_load (get?_update_seq (Heap.get?_push_size _ rfl) _) ?_)
  show wpAny _ _ (pure ((#[] : Array Value) ++ vs.toArray).toList) Q E _
  rw [show ((#[] : Array Value) ++ vs.toArray).toList = vs by simp]
  exact wpAny_pure h
theorem sorted_intsTo {l : Addr} {vs : List Value} {ns : List Int} {Q : Value → Shared → Prop} (hl : s.heap.IsTuple l vs.toArray) (hI : IntsAre vs ns) (h64 : vs.length < 64)
    (h : ∀ (out : Array Value) (ns' : List Int), IntsAre out.toList ns' → ns'.Perm ns → ns'.Pairwise (· ≤ ·) → Q (.ref (s.heap.objs.size + 1)) { s with heap := sortedAll s.heap vs out }) :
    wpAny (model prog w) A (call (.builtin "sorted") [.ref l]) Q E s := by
  refine Calls.call_function_entry kind_sorted plain_sorted entry_sorted (args_sorted1 _) ?_
  unfold Builtin.«sorted»
  refine wpAny_bind (m := checkCount "sorted" 1 1 _) (wpAny_pure ?_)
  refine wpAny_bind (collect_tupleHo hl ?_ (by rw [sizeLine_eq]; omega))
  refine wpAny_bind (wpAny_newList ?_ (by rw [sizeLine_eq]; omega))
  have hsz : ((s.heap.push (seqObj "list" #[] 0)).update s.heap.objs.size (Obj.mapSeq (· ++ vs.toArray))).objs.size = s.heap.objs.size + 1 := by
    rw [Heap.size_update, size_push']
  have hoL : (((s.heap.push (seqObj "list" #[] 0)).update s.heap.objs.size (Obj.mapSeq (· ++ vs.toArray))).push (seqObj "list" vs.toArray 0)).get? (s.heap.objs.size + 1) = some (seqObj "list" vs.toArray 0) := by
    rw [← hsz]; exact Heap.get?_push_size _ rfl
  show wpAny _ _ _ _ _ { s with heap := ((s.heap.push (seqObj "list" #[] 0)).update s.heap.objs.size (Obj.mapSeq (· ++ vs.toArray))).push (seqObj "list" vs.toArray 0) }
  rw [hsz]
  refine wpAny_bind (wpAny_holding (wpAny_call_entry slot_list_sort ⟨_, hoL, rfl⟩ entry_list_sort (list_sort_tree hoL hI h64 fun out ns' a1 a2 a3 => ⟨_, rfl, ?_⟩) (args_list_sort _)))
  exact wpAny_pure ⟨_, rfl, h out ns' a1 a2 a3⟩
end
end PyProof.Rows
namespace L2
open PySem PySem.Spec PyProof.Rows
def rSortTo (K : PySem.W.Frag) : List V → Hp → VK → Prop := fun vs H Q => ∃ (a : Addr) (ns : List Int), vs = [V.ref a] ∧ SqT K H a (ns.map V.int) ∧ ns.length < 64 ∧
  ∀ (ns' : List Int) (p : Addr), ns'.Perm ns → ns'.Pairwise (· ≤ ·) → H p = none → Q (.ref p) (upd H p (.lst (ns'.map V.int)))
theorem cr_sortT1o {X : Cx} : CallR X (.builtin "sorted") (rSortTo X.K) := by
  intro pins s σ H vs us Q I r h
  obtain ⟨a, ns, rfl, hs, h64, q⟩ := h
  obtain ⟨its, rv, hl, _⟩ := I.tuple hs
  rw [Vals.ref1 r]
  have hi := rv.ints
  refine PyProof.Rows.sorted_intsTo (show s.heap.IsTuple a its.toArray from hl) hi (by rw [hi.length]; exact h64) fun out ns' h1 h2 h3 => ?_
  obtain ⟨ep, he'⟩ := PyProof.Rows.sortedAll_at s.heap its out
  have hlen : (ns'.map V.int).length ≤ sizeLine := by rw [List.length_map, h2.length_eq]; exact small64 h64
  exact ⟨.ref _, upd H (s.heap.objs.size + 1) (.lst (ns'.map V.int)), I.laid (t' := s.toks) (fun _ _ => PyProof.Rows.sortedAll_old) (Nat.le_succ _) ⟨hlen, out.toList, ep, vals_of_ints h1, he'⟩, rfl, q ns' _ h2 h3 (I.hok.fresh (Nat.le_succ _))⟩
end L2


set_option Elab.async false
set_option linter.all false
set_option maxRecDepth 100000
set_option maxHeartbeats 2000000
set_option autoImplicit false
namespace PySem
open Sem (wp)
/-- a zip, whatever it gave out last -/
def IsZ (h : Heap) (z TI TO : Addr) (f0 : Value) (f : Bool) : Prop :=
  h.get? z = some { cls := .type "zip", dict := none, data := .fields #[f0, .bool f, .bool false, .ref TI, .ref TO], slots := #[] }
def OutV (v : Value) : Prop := v = .none ∨ ∃ T : Addr, v = rawInt T
section
variable {prog : Program} {w : World} {A : Around} {E : Value → Shared → Prop} {s : Shared}
theorem z_free {z TI TO : Addr} {f0 : Value} {f : Bool} {Q : Bool → Shared → Prop} (hz : IsZ s.heap z TI TO f0 f) (ho : OutV f0) (q1 : Q true s)
    (q2 : ∀ h', IsZ h' z TI TO f0 true → Heap.SameBut z s.heap h' → Q false { s with heap := h' }) : wpAny (model prog w) A (Builtin.SmallTypes.ownedTupleIsFree (.ref z)) Q E s := by
  unfold Builtin.SmallTypes.ownedTupleIsFree
  rcases ho with rfl | ⟨T, rfl⟩
  · exact wpAny_bind (wpAny_field hz rfl (x := .none) rfl (wpAny_pure q1))
  · refine wpAny_bind (wpAny_field hz rfl (x := rawInt T) rfl ?_)
    show wpAny _ _ (loadIfAlive ((T : Int).toNat) >>= _) _ _ _
    have go : ∀ {Q' : Option Obj → Shared → Prop}, Q' (s.heap.get? T) s → wpAny (model prog w) A (loadIfAlive T) Q' E s := fun h _ _ _ => h
    rw [Int.toNat_natCast]
    refine wpAny_bind (go ?_)
    cases s.heap.get? T with
    | none =>
      simp only [Option.isNone_none, if_true]
      exact wpAny_pure q1
    | some o =>
      simp only [Option.isNone_some, Bool.false_eq_true, if_false]
      refine wpAny_bind (wpAny_field hz rfl (x := .bool f) rfl ?_)
      cases f with
      | true =>
        rw [if_neg (by intro z; cases z)]
        exact wpAny_pure (q2 s.heap hz (Heap.SameBut.refl _ _))
      | false =>
        rw [if_pos (by rfl)]
        exact wpAny_bind (wpAny_setField_rec hz (by simp) fun h₁ e₁ k₁ => wpAny_pure (q2 h₁ e₁ k₁))
/-- the next pair of a zip of two tuples -/
theorem z_item {z TI TO i1 i2 l1 l2 : Addr} {f0 : Value} {f : Bool} {k1 k2 : Nat} {xs ys : Array Value} {x y a b : Value} {Q : Value → Shared → Prop} (D : ZipApart z TI TO i1 i2 l1 l2)
    (hz : IsZ s.heap z TI TO f0 f) (ho : OutV f0) (hI : IsPair s.heap TI (.ref i1) (.ref i2)) (hO : IsPair s.heap TO a b)
    (h1 : s.heap.IsTupleIter i1 l1 k1) (h2 : s.heap.IsTupleIter i2 l2 k2) (hl1 : s.heap.IsTuple l1 xs) (hl2 : s.heap.IsTuple l2 ys) (hx : xs[k1]? = some x) (hy : ys[k2]? = some y)
    (hQ : ∀ h' g0 g, IsZ h' z TI TO g0 g → OutV g0 → (∃ u v, IsPair h' TO u v) → h'.IsTupleIter i1 l1 (k1 + 1) → h'.IsTupleIter i2 l2 (k2 + 1) → IsPair h' s.heap.objs.size x y → h'.objs.size = s.heap.objs.size + 1 →
      (∀ c o, c ≠ z → c ≠ TO → c ≠ i1 → c ≠ i2 → s.heap.get? c = some o → h'.get? c = some o) → Q (.ref s.heap.objs.size) { s with heap := h' }) :
    wpAny (model prog w) A (Builtin.«zip.__next__» ⟨[.ref z], []⟩) (fun fin s' => ∃ v, fin = .done (.ret v) ∧ Q v s') E s := by
  show wpAny _ _ (field (.ref z) 2 >>= _) _ _ _
  refine wpAny_bind (wpAny_field hz rfl (x := .bool false) rfl ?_)
  show wpAny _ _ (field (.ref z) 3 >>= _) _ _ _
  refine wpAny_bind (wpAny_field hz rfl (x := .ref TI) rfl (wpAny_bind (m := seqItems? (.ref TI)) (wpAny_seqItems hI rfl ?_)))
  show wpAny _ _ (Builtin.SmallTypes.ownedTupleIsFree (.ref z) >>= _) _ _ _
  refine wpAny_bind (z_free hz ho ?_ fun h₁ z₁ s₁ => ?_)
  · simp only [if_true]
    refine wpAny_bind (wpAny_rule (wpAny_bind (wpAny_field hz rfl (x := .ref TO) rfl (wpAny_bind (wpAny_setField_rec hz (by simp) fun h₁ z₁ s₁ => ?_)))))
    replace z₁ : IsZ h₁ z TI TO .ellipsis f := z₁
    refine wpAny_bind ?_
    simp only [List.zipIdx_cons, List.zipIdx_nil, List.forIn_cons, List.forIn_nil]
    refine wpAny_bind (wpAny_bind (wpAny_onRaise ?_))
    show wpAny _ _ (Builtin.SmallTypes.nextOf (.ref i1) >>= _) _ _ _
    refine wpAny_bind (RZ.nextOf_tuple_item (h1.extBut s₁.extBut D.i1z) (hl1.extBut s₁.extBut D.l1z) hx fun h₂ n₂ s₂ => wpAny_pure ?_)
    have O₂ : IsPair h₂ TO a b := s₂.extBut _ _ D.TOi1 (s₁.extBut _ _ D.TOz hO)
    refine wpAny_bind (wpAny_seqItems O₂ rfl (wpAny_bind (wpAny_updateSeq_pair O₂ fun h₃ O₃ s₃ => ?_)))
    replace O₃ : IsPair h₃ TO x b := O₃
    refine wpAny_bind (wpAny_letGo (wpAny_pure (wpAny_bind (wpAny_bind (wpAny_onRaise ?_)))))
    show wpAny _ _ (Builtin.SmallTypes.nextOf (.ref i2) >>= _) _ _ _
    refine wpAny_bind (RZ.nextOf_tuple_item (((h2.extBut s₁.extBut D.i2z).extBut s₂.extBut D.i12.symm).extBut s₃.extBut D.TOi2.symm) (((hl2.extBut s₁.extBut D.l2z).extBut s₂.extBut D.l2i1).extBut s₃.extBut D.l2TO) hy fun h₄ n₄ s₄ => wpAny_pure ?_)
    have O₄ : IsPair h₄ TO x b := s₄.extBut _ _ D.TOi2 O₃
    refine wpAny_bind (wpAny_seqItems O₄ rfl (wpAny_bind (wpAny_updateSeq_pair O₄ fun h₅ O₅ s₅ => ?_)))
    replace O₅ : IsPair h₅ TO x y := O₅
    refine wpAny_bind (wpAny_letGo (wpAny_pure (wpAny_pure (wpAny_bind (wpAny_seqItems O₅ rfl (wpAny_bind (wpAny_newTuple ?_)))))))
    have sz : h₅.objs.size = s.heap.objs.size := by rw [s₅.1, s₄.1, s₃.1, s₂.1, s₁.1]
    have z₅ : IsZ h₅ z TI TO .ellipsis f := s₅.extBut _ _ D.TOz.symm (s₄.extBut _ _ D.i2z.symm (s₃.extBut _ _ D.TOz.symm (s₂.extBut _ _ D.i1z.symm z₁)))
    have k₅ : ∀ c o, c ≠ z → c ≠ TO → c ≠ i1 → c ≠ i2 → s.heap.get? c = some o → h₅.get? c = some o := fun c o c1 c2 c3 c4 e => s₅.extBut _ _ c2 (s₄.extBut _ _ c4 (s₃.extBut _ _ c2 (s₂.extBut _ _ c3 (s₁.extBut _ _ c1 e))))
    have n1₅ : h₅.IsTupleIter i1 l1 (k1 + 1) := ((n₂.extBut s₃.extBut D.TOi1.symm).extBut s₄.extBut D.i12).extBut s₅.extBut D.TOi1.symm
    have n2₅ : h₅.IsTupleIter i2 l2 (k2 + 1) := n₄.extBut s₅.extBut D.TOi2.symm
    have zlt : z < h₅.objs.size := Heap.lt_size z₅
    show wpAny _ _ (Builtin.SmallTypes.ownedTupleHandOut (.ref z) (.ref h₅.objs.size) >>= _) _ _ _
    refine wpAny_bind ?_
    unfold Builtin.SmallTypes.ownedTupleHandOut
    have z₆ : IsZ (h₅.push { cls := .type "tuple", data := .seq #[x, y] }) z TI TO .ellipsis f := Heap.get?_push_of_some _ z₅
    refine wpAny_bind (wpAny_setField_rec z₆ (by simp) fun h₇ z₇ s₇ => ?_)
    replace z₇ : IsZ h₇ z TI TO (rawInt h₅.objs.size) f := z₇
    refine wpAny_setField_rec z₇ (by simp) fun h₈ z₈ s₈ => ?_
    replace z₈ : IsZ h₈ z TI TO (rawInt h₅.objs.size) false := z₈
    have up : ∀ c o, c ≠ z → h₅.get? c = some o → h₈.get? c = some o := fun c o c1 e => s₈.extBut _ _ c1 (s₇.extBut _ _ c1 (Heap.get?_push_of_some _ e))
    have T₈ : IsPair h₈ h₅.objs.size x y := s₈.extBut _ _ (Nat.ne_of_gt zlt) (s₇.extBut _ _ (Nat.ne_of_gt zlt) (Heap.get?_push_size _ rfl))
    have sz8 : h₈.objs.size = h₅.objs.size + 1 := by rw [s₈.1, s₇.1, Heap.size_push]
    rw [sz] at T₈ sz8
    refine wpAny_pure ⟨_, rfl, ?_⟩
    show Q (.ref h₅.objs.size) _
    rw [sz]
    exact hQ h₈ _ _ z₈ (.inr ⟨_, rfl⟩) ⟨_, _, up _ _ D.TOz O₅⟩ (n1₅.at fun o e => up _ o D.i1z e) (n2₅.at fun o e => up _ o D.i2z e) T₈ sz8 fun c o c1 c2 c3 c4 e => up c o c1 (k₅ c o c1 c2 c3 c4 e)
  · simp only [Bool.false_eq_true, if_false]
    refine wpAny_bind ?_
    rw [← Array.forIn_toList]
    simp only [List.forIn_cons, List.forIn_nil]
    refine wpAny_bind (wpAny_bind (wpAny_holding ?_))
    show wpAny _ _ (Builtin.SmallTypes.nextOf (.ref i1) >>= _) _ _ _
    refine wpAny_bind (RZ.nextOf_tuple_item (h1.extBut s₁.extBut D.i1z) (hl1.extBut s₁.extBut D.l1z) hx fun h₂ n₂ s₂ => wpAny_pure (wpAny_pure (wpAny_bind (wpAny_bind (wpAny_holding ?_)))))
    show wpAny _ _ (Builtin.SmallTypes.nextOf (.ref i2) >>= _) _ _ _
    refine wpAny_bind (RZ.nextOf_tuple_item ((h2.extBut s₁.extBut D.i2z).extBut s₂.extBut D.i12.symm) ((hl2.extBut s₁.extBut D.l2z).extBut s₂.extBut D.l2i1) hy fun h₃ n₃ s₃ => wpAny_pure (wpAny_pure (wpAny_pure ?_)))
    show wpAny _ _ (newTuple [x, y] >>= _) _ _ _
    refine wpAny_bind (wpAny_newTuple (wpAny_pure ⟨_, rfl, ?_⟩))
    have sz : h₃.objs.size = s.heap.objs.size := by rw [s₃.1, s₂.1, s₁.1]
    have z₃ : IsZ h₃ z TI TO f0 true := s₃.extBut _ _ D.i2z.symm (s₂.extBut _ _ D.i1z.symm z₁)
    have k₃ : ∀ c o, c ≠ z → c ≠ i1 → c ≠ i2 → s.heap.get? c = some o → h₃.get? c = some o := fun c o c1 c2 c3 e => s₃.extBut _ _ c3 (s₂.extBut _ _ c2 (s₁.extBut _ _ c1 e))
    have n1₃ : h₃.IsTupleIter i1 l1 (k1 + 1) := n₂.extBut s₃.extBut D.i12
    show Q (.ref h₃.objs.size) _
    have T₄ : IsPair (h₃.push { cls := .type "tuple", data := .seq #[x, y] }) h₃.objs.size x y := Heap.get?_push_size _ rfl
    have sz4 : (h₃.push { cls := .type "tuple", data := .seq #[x, y] }).objs.size = h₃.objs.size + 1 := Heap.size_push ..
    rw [sz] at T₄ sz4 ⊢
    exact hQ _ _ _ (Heap.get?_push_of_some _ z₃) ho ⟨_, _, Heap.get?_push_of_some _ (k₃ _ _ D.TOz D.TOi1 D.TOi2 hO)⟩ (n1₃.at fun o e => Heap.get?_push_of_some _ e) (n₃.at fun o e => Heap.get?_push_of_some _ e) T₄ sz4 fun c o c1 _ c3 c4 e => Heap.get?_push_of_some _ (k₃ c o c1 c3 c4 e)
theorem z_end {z TI TO i1 i2 l1 l2 : Addr} {f0 : Value} {f : Bool} {k1 k2 : Nat} {xs ys : Array Value} {a b : Value} {Q : Fin → Shared → Prop} (hh : A.handled = none) (D : ZipApart z TI TO i1 i2 l1 l2)
    (hz : IsZ s.heap z TI TO f0 f) (ho : OutV f0) (hI : IsPair s.heap TI (.ref i1) (.ref i2)) (hO : IsPair s.heap TO a b)
    (h1 : s.heap.IsTupleIter i1 l1 k1) (h2 : s.heap.IsTupleIter i2 l2 k2) (hl1 : s.heap.IsTuple l1 xs) (hl2 : s.heap.IsTuple l2 ys) (hend : xs[k1]? = none ∨ ys[k2]? = none)
    (hE : ∀ h' e, (∀ c o, c ≠ z → c ≠ TO → c ≠ i1 → c ≠ i2 → s.heap.get? c = some o → h'.get? c = some o) → (∃ o, h'.get? e = some o ∧ o.cls = .type "StopIteration") → E (.ref e) { s with heap := h' }) :
    wpAny (model prog w) A (Builtin.«zip.__next__» ⟨[.ref z], []⟩) Q E s := by
  show wpAny _ _ (field (.ref z) 2 >>= _) _ _ _
  refine wpAny_bind (wpAny_field hz rfl (x := .bool false) rfl ?_)
  show wpAny _ _ (field (.ref z) 3 >>= _) _ _ _
  refine wpAny_bind (wpAny_field hz rfl (x := .ref TI) rfl (wpAny_bind (m := seqItems? (.ref TI)) (wpAny_seqItems hI rfl ?_)))
  show wpAny _ _ (Builtin.SmallTypes.ownedTupleIsFree (.ref z) >>= _) _ _ _
  refine wpAny_bind (z_free hz ho ?_ fun h₁ z₁ s₁ => ?_)
  · simp only [if_true]
    refine wpAny_bind (wpAny_rule (wpAny_bind (wpAny_field hz rfl (x := .ref TO) rfl (wpAny_bind (wpAny_setField_rec hz (by simp) fun h₁ z₁ s₁ => ?_)))))
    replace z₁ : IsZ h₁ z TI TO .ellipsis f := z₁
    refine wpAny_bind ?_
    simp only [List.zipIdx_cons, List.zipIdx_nil, List.forIn_cons, List.forIn_nil]
    refine wpAny_bind (wpAny_bind (wpAny_onRaise ?_))
    show wpAny _ _ (Builtin.SmallTypes.nextOf (.ref i1) >>= _) _ _ _
    cases hx : xs[k1]? with
    | none =>
      refine wpAny_bind (RZ.nextOf_tuple_end hh (h1.extBut s₁.extBut D.i1z) (hl1.extBut s₁.extBut D.l1z) hx fun h₂ e s₂ he => ?_)
      obtain ⟨oe, hoe, hce⟩ := he
      have z₂ : IsZ h₂ z TI TO .ellipsis f := s₂ _ _ D.i1z.symm z₁
      have hez : e ≠ z := fun q => by
        subst q
        have z₂' : h₂.get? e = some _ := z₂
        rw [z₂'] at hoe; cases hoe; simp at hce
      exact wpAny_setField_rec z₂ (by simp) fun h₃ _ s₃ => hE h₃ e (fun c o c1 _ c3 _ q => s₃.extBut _ _ c1 (s₂ _ _ c3 (s₁.extBut _ _ c1 q))) ⟨oe, s₃.extBut _ _ hez hoe, hce⟩
    | some x =>
      have hy : ys[k2]? = none := by rcases hend with q | q; rw [hx] at q; cases q; exact q
      refine wpAny_bind (RZ.nextOf_tuple_item (h1.extBut s₁.extBut D.i1z) (hl1.extBut s₁.extBut D.l1z) hx fun h₂ n₂ s₂ => wpAny_pure ?_)
      have O₂ : IsPair h₂ TO a b := s₂.extBut _ _ D.TOi1 (s₁.extBut _ _ D.TOz hO)
      refine wpAny_bind (wpAny_seqItems O₂ rfl (wpAny_bind (wpAny_updateSeq_pair O₂ fun h₃ O₃ s₃ => wpAny_bind (wpAny_letGo (wpAny_pure (wpAny_bind (wpAny_bind (wpAny_onRaise ?_))))))))
      show wpAny _ _ (Builtin.SmallTypes.nextOf (.ref i2) >>= _) _ _ _
      refine wpAny_bind (RZ.nextOf_tuple_end hh (((h2.extBut s₁.extBut D.i2z).extBut s₂.extBut D.i12.symm).extBut s₃.extBut D.TOi2.symm) (((hl2.extBut s₁.extBut D.l2z).extBut s₂.extBut D.l2i1).extBut s₃.extBut D.l2TO) hy fun h₄ e s₄ he => ?_)
      obtain ⟨oe, hoe, hce⟩ := he
      have z₄ : IsZ h₄ z TI TO .ellipsis f := s₄ _ _ D.i2z.symm (s₃.extBut _ _ D.TOz.symm (s₂.extBut _ _ D.i1z.symm z₁))
      have hez : e ≠ z := fun q => by
        subst q
        have z₄' : h₄.get? e = some _ := z₄
        rw [z₄'] at hoe; cases hoe; simp at hce
      exact wpAny_setField_rec z₄ (by simp) fun h₅ _ s₅ => hE h₅ e (fun c o c1 c2 c3 c4 q => s₅.extBut _ _ c1 (s₄ _ _ c4 (s₃.extBut _ _ c2 (s₂.extBut _ _ c3 (s₁.extBut _ _ c1 q))))) ⟨oe, s₅.extBut _ _ hez hoe, hce⟩
  · simp only [Bool.false_eq_true, if_false]
    refine wpAny_bind ?_
    rw [← Array.forIn_toList]
    simp only [List.forIn_cons, List.forIn_nil]
    refine wpAny_bind (wpAny_bind (wpAny_holding ?_))
    show wpAny _ _ (Builtin.SmallTypes.nextOf (.ref i1) >>= _) _ _ _
    cases hx : xs[k1]? with
    | none =>
      refine wpAny_bind (RZ.nextOf_tuple_end hh (h1.extBut s₁.extBut D.i1z) (hl1.extBut s₁.extBut D.l1z) hx fun h₂ e s₂ he => ?_)
      exact hE h₂ e (fun c o c1 _ c3 _ q => s₂ _ _ c3 (s₁.extBut _ _ c1 q)) he
    | some x =>
      have hy : ys[k2]? = none := by rcases hend with q | q; rw [hx] at q; cases q; exact q
      refine wpAny_bind (RZ.nextOf_tuple_item (h1.extBut s₁.extBut D.i1z) (hl1.extBut s₁.extBut D.l1z) hx fun h₂ n₂ s₂ => wpAny_pure (wpAny_pure (wpAny_bind (wpAny_bind (wpAny_holding ?_)))))
      show wpAny _ _ (Builtin.SmallTypes.nextOf (.ref i2) >>= _) _ _ _
      refine wpAny_bind (RZ.nextOf_tuple_end hh ((h2.extBut s₁.extBut D.i2z).extBut s₂.extBut D.i12.symm) ((hl2.extBut s₁.extBut D.l2z).extBut s₂.extBut D.l2i1) hy fun h₃ e s₃ he => ?_)
      exact hE h₃ e (fun c o c1 _ c3 c4 q => s₃ _ _ c4 (s₂.extBut _ _ c3 (s₁.extBut _ _ c1 q))) he
/-- next of what is no list: by its type -/
theorem z_nextOf {z TI TO : Addr} {f0 : Value} {f : Bool} {Q : Value → Shared → Prop} (hz : IsZ s.heap z TI TO f0 f)
    (h : wpAny (model prog w) A.in1 (Builtin.«zip.__next__» ⟨[.ref z], []⟩) (fun fin s' => ∃ v, fin = .done (.ret v) ∧ Q v s') E s) : wpAny (model prog w) A (Builtin.SmallTypes.nextOf (.ref z)) Q E s := by
  have hT : s.TypeIs (.ref z) "zip" := ⟨_, hz, rfl⟩
  unfold Builtin.SmallTypes.nextOf
  refine wpAny_bind (wpAny_callSpecial?_slot (name := Str.ofString "__next__") hT F.slot_zip_next (wpAny_call_entry F.slot_zip_next hT F.entry_zip_next (wpAny_mono h (fun fin s' q => ?_) fun _ _ e => e) (F.args_zip_next_1 _)))
  obtain ⟨v, rfl, q⟩ := q
  exact ⟨v, rfl, wpAny_pure q⟩
end
end PySem


set_option Elab.async false
set_option linter.all false
set_option maxRecDepth 100000
set_option maxHeartbeats 2000000
set_option autoImplicit false
namespace L2
open PySem PySem.Spec PyProof.Rows
/-- a list (k) or a tuple -/
def SqK (K : PySem.W.Frag) : Bool → Hp → Addr → List V → Prop
  | true => SqL K
  | false => SqT K
def HpSeq : Bool → Heap → Addr → Array Value → Prop
  | true => Heap.IsList
  | false => Heap.IsTuple
def HpIter : Bool → Heap → Addr → Addr → Nat → Prop
  | true => Heap.IsListIter
  | false => Heap.IsTupleIter
def itObj : Bool → Addr → Obj
  | true, a => { cls := .type "list_iterator", data := .fields #[.ref a, .int 0 0] }
  | false, a => { cls := .type "tuple_iterator", data := .fields #[.ref a, .int 0 0] }
theorem Inv.seqK {X : Cx} {pins : List (Addr × Obj)} {σ : St} {H : Hp} {s : Shared} (I : Inv X pins σ H s) {k : Bool} {a : Addr} {xs : List V} (q : SqK X.K k H a xs) : ∃ us : List Value, Vals xs us ∧ HpSeq k s.heap a us.toArray ∧ a < s.heap.objs.size := by
  cases k with
  | true =>
    obtain ⟨us, ru, pu, _⟩ := I.list q
    exact ⟨us, ru, pu.isList, pu.lt⟩
  | false =>
    obtain ⟨us, ru, pu, _⟩ := I.tuple q
    obtain ⟨o, ho, _⟩ := id pu
    exact ⟨us, ru, pu, Heap.lt_size ho⟩
theorem Inv.seqK_inj {X : Cx} {pins : List (Addr × Obj)} {σ : St} {H : Hp} {s : Shared} (I : Inv X pins σ H s) {k : Bool} {a : Addr} {xs ys : List V} (q : SqK X.K k H a xs) (r : SqK X.K k H a ys) : xs = ys := by
  cases k with
  | true => exact I.list_inj q r
  | false => exact I.tuple_inj q r
theorem drawsK {prog : Program} {w : World} {A : Around} (k : Bool) (hh : A.handled = none) (it l : Addr) (hne : l ≠ it) (items : Array Value) :
    Draws prog w A it [it, l] items.size (fun i v => items[i]? = some v) (fun i h => HpIter k h it l i ∧ HpSeq k h l items) := by
  cases k with
  | true => exact Draws.list hh it l hne items
  | false => exact Draws.tuple hh it l hne items
theorem beginsK (k : Bool) (l : Addr) (items : Array Value) : Begins (.ref l) (itObj k l) fun h => HpSeq k h l items := by
  cases k with
  | true => exact begins_list l items
  | false => exact begins_tuple l items
theorem HpIter.atK {k : Bool} {h h' : Heap} {i a : Addr} {n : Nat} (x : HpIter k h i a n) (q : ∀ o, h.get? i = some o → h'.get? i = some o) : HpIter k h' i a n := by
  cases k with
  | true => exact Heap.IsListIter.at x q
  | false => exact Heap.IsTupleIter.at x q
theorem HpIter.cell {k : Bool} {h : Heap} {i a : Addr} {n : Nat} (x : HpIter k h i a n) : ∃ o, h.get? i = some o ∧ ∀ v, o.data ≠ .cell v := by
  cases k with
  | true => obtain ⟨o, e, _, d⟩ := x; exact ⟨o, e, fun v q => by rw [d] at q; cases q⟩
  | false => obtain ⟨o, e, _, d⟩ := x; exact ⟨o, e, fun v q => by rw [d] at q; cases q⟩
theorem HpIter.begun {k : Bool} {h : Heap} {i a : Addr} (e : h.get? i = some (itObj k a)) : HpIter k h i a 0 := by
  cases k with
  | true => exact ⟨_, e, rfl, rfl⟩
  | false => exact ⟨_, e, rfl, rfl⟩
def Itz3 (K : PySem.W.Frag) (k1 k2 k3 : Bool) (a b c : Addr) : It where
  go i H := ∃ (xs ys zs : List V) (x y z : V), SqK K k1 H a xs ∧ SqK K k2 H b ys ∧ SqK K k3 H c zs ∧ xs[i]? = some x ∧ ys[i]? = some y ∧ zs[i]? = some z
  yld i H v H' := ∃ T x y z, v = .ref T ∧ H T = none ∧ H' = upd H T (.tup [x, y, z]) ∧ (∀ xs, SqK K k1 H a xs → xs[i]? = some x) ∧ (∀ ys, SqK K k2 H b ys → ys[i]? = some y) ∧ ∀ zs, SqK K k3 H c zs → zs[i]? = some z
  stop i H := ∃ xs ys zs : List V, SqK K k1 H a xs ∧ SqK K k2 H b ys ∧ SqK K k3 H c zs ∧ i ≤ xs.length ∧ i ≤ ys.length ∧ i ≤ zs.length ∧ (i = xs.length ∨ i = ys.length ∨ i = zs.length)
structure Z3At (k1 k2 k3 : Bool) (N a b c : Addr) (i : Nat) (h : Heap) : Prop where
  zip : IsZip h (N + 5) (N + 3) (N + 4) .none
  ins : IsTupOf3 h (N + 3) (.ref N) (.ref (N + 1)) (.ref (N + 2))
  out : ∃ x y z, IsTupOf3 h (N + 4) x y z
  it1 : HpIter k1 h N a i
  it2 : HpIter k2 h (N + 1) b i
  it3 : HpIter k3 h (N + 2) c i
theorem Z3At.cells {k1 k2 k3 : Bool} {N a b c : Addr} {i : Nat} {h : Heap} (st : Z3At k1 k2 k3 N a b c i h) {d : Addr} (hd : d ∈ [N + 5, N + 3, N + 4, N, N + 1, N + 2]) : ∃ o, h.get? d = some o ∧ ∀ v, o.data ≠ .cell v := by
  obtain ⟨hz, hI, ⟨x, y, z, hO⟩, h1, h2, h3⟩ := st
  simp only [List.mem_cons, List.not_mem_nil, or_false] at hd
  rcases hd with rfl | rfl | rfl | rfl | rfl | rfl
  · exact ⟨_, hz, fun v => nofun⟩
  · exact ⟨_, hI, fun v => nofun⟩
  · exact ⟨_, hO, fun v => nofun⟩
  · exact h1.cell
  · exact h2.cell
  · exact h3.cell
theorem vals_size {xs : List V} {us : List Value} (r : Vals xs us) : us.toArray.size = xs.length := by
  have := r.length
  simp only [List.size_toArray]; omega
theorem turn_zip3 {P : Program} {w : World} {K : PySem.W.Frag} {elts : List Expr} {kk : Nat} {tpos : Pos} {k1 k2 k3 : Bool} {N a b c : Addr} (la : a < N) (lb : b < N) (lc : c < N) :
    Turn P w K (.Tuple elts kk tpos) (Itz3 K k1 k2 k3 a b c) [N + 5, N + 3, N + 4, N, N + 1, N + 2] (N + 5) (Z3At k1 k2 k3 N a b c) where
  mem := List.mem_cons_self
  obj i h st c hc := st.cells hc
  keep i h h' st k := by
    obtain ⟨hz, hI, ⟨x, y, z, hO⟩, h1, h2, h3⟩ := st
    exact ⟨k _ (by simp) _ hz, k _ (by simp) _ hI, ⟨x, y, z, k _ (by simp) _ hO⟩, h1.atK fun o q => k _ (by simp) o q, h2.atK fun o q => k _ (by simp) o q, h3.atK fun o q => k _ (by simp) o q⟩
  item := by
    intro X hP hw hK hc i pins s σ H E I hf st hg
    subst hP hw hK
    have lcl : ∀ {c : Addr}, c ∈ [N + 5, N + 3, N + 4, N, N + 1, N + 2] → c < s.heap.objs.size := fun hm => let ⟨_, q, _⟩ := st.cells hm; Heap.lt_size q
    obtain ⟨hz, hI, ⟨x0, y0, z0, hO⟩, h1, h2, h3⟩ := st
    obtain ⟨xs, ys, zs, x, y, z, qx, qy, qz, hx, hy, hz'⟩ := hg
    obtain ⟨us, ru, pu, _⟩ := I.seqK qx
    obtain ⟨ws, rw', pw, _⟩ := I.seqK qy
    obtain ⟨ts, rt, pt, _⟩ := I.seqK qz
    have hh : X.A.in1.handled = none := I.ok.hd hc
    have S := zip_sep3 (N := N) (fp1 := [a]) (fp2 := [b]) (fp3 := [c]) (fun d hd => by rw [List.mem_singleton] at hd; subst hd; exact la) (fun d hd => by rw [List.mem_singleton] at hd; subst hd; exact lb) (fun d hd => by rw [List.mem_singleton] at hd; subst hd; exact lc)
    have nx : i < us.toArray.size := by rw [vals_size ru]; exact (List.getElem?_eq_some_iff.mp hx).1
    have ny : i < ws.toArray.size := by rw [vals_size rw']; exact (List.getElem?_eq_some_iff.mp hy).1
    have nz : i < ts.toArray.size := by rw [vals_size rt]; exact (List.getElem?_eq_some_iff.mp hz').1
    refine wpAny_pyNext_zipD3_item S (drawsK k1 hh N a (Nat.ne_of_lt la) us.toArray) (drawsK k2 hh (N + 1) b (Nat.ne_of_lt (Nat.lt_succ_of_lt lb)) ws.toArray) (drawsK k3 hh (N + 2) c (Nat.ne_of_lt (Nat.lt_succ_of_lt (Nat.lt_succ_of_lt lc))) ts.toArray) hz hI hO ⟨h1, pu⟩ ⟨h2, pw⟩ ⟨h3, pt⟩ nx ny nz
      fun x1 x2 x3 h' tk y1 y2 y3 z' O' s1 s2 s3 hT hsz hk => ?_
    obtain ⟨u1, eu1, r1⟩ := ru.get hx
    obtain ⟨u2, eu2, r2⟩ := rw'.get hy
    obtain ⟨u3, eu3, r3⟩ := rt.get hz'
    have e1 : x1 = u1 := Option.some.inj (y1.symm.trans (by simpa using eu1))
    have e2 : x2 = u2 := Option.some.inj (y2.symm.trans (by simpa using eu2))
    have e3 : x3 = u3 := Option.some.inj (y3.symm.trans (by simpa using eu3))
    subst e1 e2 e3
    have zlt : N + 5 < s.heap.objs.size := lcl (by simp)
    refine ⟨_, rfl, wpAny_letOwnedTupleGo_zip (s := { s with heap := h', toks := tk }) z' fun g gz sb => ?_⟩
    have gT : g.get? s.heap.objs.size = some { cls := .type "tuple", data := .seq #[x1, x2, x3] } := (sb.2 _ (Nat.ne_of_gt zlt)).trans hT
    have I1 : Inv X pins σ (upd H s.heap.objs.size (.tup [x, y, z])) { s with heap := g, toks := tk } :=
      I.turnedNew (ch := [N + 5, N + 3, N + 4, N, N + 1, N + 2]) (fun c o nc e => by
        simp only [List.mem_cons, List.not_mem_nil, or_false, not_or] at nc
        exact (sb.2 c nc.1).trans (hk c o nc.1 nc.2.2.1 nc.2.2.2.1 nc.2.2.2.2.1 nc.2.2.2.2.2 e)) hf (Nat.le_refl _) ⟨by show 3 ≤ sizeLine; decide, [x1, x2, x3], .cons r1 (.cons r2 (.cons r3 .nil)), ⟨_, gT, rfl, _, rfl⟩⟩
    refine ⟨.ref s.heap.objs.size, _, I1, rfl, ⟨_, x, y, z, rfl, I.hok.fresh (Nat.le_refl _), rfl, fun l hl => ?_, fun l hl => ?_, fun l hl => ?_⟩, ⟨gz, ?_, ⟨x1, x2, x3, ?_⟩, ?_, ?_, ?_⟩, fun c hm => ?_⟩
    · rw [I.seqK_inj hl qx]; exact hx
    · rw [I.seqK_inj hl qy]; exact hy
    · rw [I.seqK_inj hl qz]; exact hz'
    · exact (sb.2 _ S.TIz).trans (hk _ _ S.TIz S.TITO S.TIi1 S.TIi2 S.TIi3 hI)
    · exact (sb.2 _ S.TOz).trans O'
    · exact s1.1.atK fun o q => (sb.2 _ (Nat.ne_of_lt (Nat.lt_add_of_pos_right (by decide)))).trans q
    · exact s2.1.atK fun o q => (sb.2 _ (Nat.ne_of_lt (Nat.add_lt_add_left (show 1 < 5 by decide) N))).trans q
    · exact s3.1.atK fun o q => (sb.2 _ (Nat.ne_of_lt (Nat.add_lt_add_left (show 2 < 5 by decide) N))).trans q
    · rw [upd_ne (Nat.ne_of_lt (lcl hm))]
      exact (hf c hm).1
  done := by
    intro X hP hw hK hc i pins s σ H E I hf st hg
    subst hP hw hK
    obtain ⟨hz, hI, ⟨x0, y0, z0, hO⟩, h1, h2, h3⟩ := st
    obtain ⟨xs, ys, zs, qx, qy, qz, l1, l2, l3, hend⟩ := hg
    obtain ⟨us, ru, pu, _⟩ := I.seqK qx
    obtain ⟨ws, rw', pw, _⟩ := I.seqK qy
    obtain ⟨ts, rt, pt, _⟩ := I.seqK qz
    have hh : X.A.in1.handled = none := I.ok.hd hc
    have S := zip_sep3 (N := N) (fp1 := [a]) (fp2 := [b]) (fp3 := [c]) (fun d hd => by rw [List.mem_singleton] at hd; subst hd; exact la) (fun d hd => by rw [List.mem_singleton] at hd; subst hd; exact lb) (fun d hd => by rw [List.mem_singleton] at hd; subst hd; exact lc)
    refine wpAny_pyNext_zipD3_end S (drawsK k1 hh N a (Nat.ne_of_lt la) us.toArray) (drawsK k2 hh (N + 1) b (Nat.ne_of_lt (Nat.lt_succ_of_lt lb)) ws.toArray) (drawsK k3 hh (N + 2) c (Nat.ne_of_lt (Nat.lt_succ_of_lt (Nat.lt_succ_of_lt lc))) ts.toArray) hz hI hO ⟨h1, pu⟩ ⟨h2, pw⟩ ⟨h3, pt⟩
      (by rw [vals_size ru]; exact l1) (by rw [vals_size rw']; exact l2) (by rw [vals_size rt]; exact l3) (by rw [vals_size ru, vals_size rw', vals_size rt]; exact hend) fun h' tk hk => ⟨rfl, I.turnedL (ch := [N + 5, N + 3, N + 4, N, N + 1, N + 2]) (fun c o nc e => by
        simp only [List.mem_cons, List.not_mem_nil, or_false, not_or] at nc
        exact hk c o nc.1 nc.2.2.1 nc.2.2.2.1 nc.2.2.2.2.1 nc.2.2.2.2.2 e) hf⟩
  self A i s Q E st h := wpAny_pyIter_zip st.zip h
def iZip3 (K : PySem.W.Frag) (ta : TA) : TI := fun σ H R => ta σ H fun vs H1 => ∃ k1 k2 k3 a b c xs ys zs, vs = [.ref a, .ref b, .ref c] ∧ SqK K k1 H1 a xs ∧ SqK K k2 H1 b ys ∧ SqK K k3 H1 c zs ∧ R (Itz3 K k1 k2 k3 a b c) H1
theorem pi_zip3 {X : Cx} {e1 e2 e3 : Expr} {ta : TA} {p pos tpos : Pos} {elts : List Expr} {kk : Nat} (hg : Gl X "zip") (hm : X.mg "zip" = none) (ha : PA X [e1, e2, e3] ta)
    (hs : starEach [e1, e2, e3] X.env = (false, eval e1 X.env) :: starEach [e2, e3] X.env := by rfl) (hpl : (backTo pos (starEach [e2, e3] X.env)).any (·.1) = false := by rfl) :
    PI X (.Tuple elts kk tpos) (.Call (.Name "zip" p) [e1, e2, e3] [] pos) (iZip3 X.K ta) where
  run pins s σ H R I h := by
    refine Call_ (ld_blt I hg hm PyProof.Rows.boot_zip (PyProof.Rows.callWith_type1 (thn (ha.run pos pins s σ H _ I h) fun us s1 ⟨vs, H1, I1, r1, k1, k2, k3, a, b, c, xs, ys, zs, ev, qx, qy, qz, q⟩ => ?_) hs hpl))
    subst ev
    cases r1 with
    | cons ra rr =>
    cases rr with
    | cons rb rr =>
    cases rr with
    | cons rc rr =>
    cases rr
    cases ra
    cases rb
    cases rc
    obtain ⟨us, _, pu, la⟩ := I1.seqK qx
    obtain ⟨ws, _, pw, lb⟩ := I1.seqK qy
    obtain ⟨ts, _, pt, lc⟩ := I1.seqK qz
    refine zip_begins3 (beginsK k1 a us.toArray) (beginsK k2 b ws.toArray) (beginsK k3 c ts.toArray) pu pw pt fun h' hz hI hO h1 h2 h3 hsz hk => wpAny_pyIter_zip hz ?_
    refine ⟨s1.heap.objs.size + 5, [s1.heap.objs.size + 5, s1.heap.objs.size + 3, s1.heap.objs.size + 4, s1.heap.objs.size, s1.heap.objs.size + 1, s1.heap.objs.size + 2], _, _, H1, rfl, I1.kept (t' := s1.toks) hk, turn_zip3 la lb lc, ⟨hz, hI, ⟨_, _, _, hO⟩, HpIter.begun h1, HpIter.begun h2, HpIter.begun h3⟩, fun d hd => ?_, q⟩
    have hle : s1.heap.objs.size ≤ d := by
      simp only [List.mem_cons, List.not_mem_nil, or_false] at hd
      rcases hd with rfl | rfl | rfl | rfl | rfl | rfl <;> omega
    exact I1.fpOk hle (I1.hok.fresh hle)
/-- a loop over zip of three of one length -/
theorem for_zip3 {K : PySem.W.Frag} {k1 k2 k3 : Bool} {a b c : Addr} {xs ys zs : List V} {g : TG} {tb : TS} {D : Ends} {σ : St} {H : Hp} (hl : ys.length = xs.length) (hl2 : zs.length = xs.length) (Pv : Nat → St → Hp → Prop) (h0 : Pv 0 σ H) (hq : ∀ i σ H, Pv i σ H → SqK K k1 H a xs ∧ SqK K k2 H b ys ∧ SqK K k3 H c zs)
    (hs : ∀ i x y z T σ H, xs[i]? = some x → ys[i]? = some y → zs[i]? = some z → H T = none → Pv i σ H → g (.ref T) σ (upd H T (.tup [x, y, z])) fun σ2 H2 => tb { D with nx := Pv (i + 1), ct := Pv (i + 1), bk := D.nx } σ2 H2)
    (hd : ∀ σ H, Pv xs.length σ H → D.nx σ H) :
    ∃ W : Nat → Nat → St → Hp → Prop, (∃ m, W 0 m σ H) ∧ ∀ i m σ H, W i m σ H →
      ((Itz3 K k1 k2 k3 a b c).stop i H ∧ D.nx σ H) ∨ ((Itz3 K k1 k2 k3 a b c).go i H ∧ ∃ N : St → Hp → Prop, (∀ σ' H', N σ' H' → ∃ m', m' < m ∧ W (i + 1) m' σ' H') ∧ ∀ x H', (Itz3 K k1 k2 k3 a b c).yld i H x H' → g x σ H' fun σ2 H2 => tb { D with nx := N, ct := N, bk := D.nx } σ2 H2) := by
  refine ⟨fun i m σ H => m = xs.length - i ∧ i ≤ xs.length ∧ Pv i σ H, ⟨xs.length, by simp, Nat.zero_le _, h0⟩, ?_⟩
  rintro i m σ H ⟨rfl, hi, p⟩
  obtain ⟨qa, qb, qc⟩ := hq i σ H p
  by_cases hlt : i < xs.length
  · refine .inr ⟨⟨xs, ys, zs, _, _, _, qa, qb, qc, List.getElem?_eq_getElem hlt, List.getElem?_eq_getElem (by omega), List.getElem?_eq_getElem (by omega)⟩, Pv (i + 1), fun σ' H' p' => ⟨xs.length - (i + 1), by omega, rfl, hlt, p'⟩, fun v H' y => ?_⟩
    obtain ⟨T, x, y, z, rfl, hT, rfl, f1, f2, f3⟩ := y
    exact hs i x y z T σ H (f1 xs qa) (f2 ys qb) (f3 zs qc) hT p
  · have e : i = xs.length := by omega
    subst e
    exact .inl ⟨⟨xs, ys, zs, qa, qb, qc, Nat.le_refl _, by omega, by omega, .inl rfl⟩, hd σ H p⟩
end L2


set_option Elab.async false
set_option linter.all false
set_option maxRecDepth 100000
set_option maxHeartbeats 2000000
set_option autoImplicit false
namespace PySem
open Sem (wp)
namespace F
theorem zip_no_len : typeLookup (.type "zip") "__len__" = pure none := by rw [typeLookup_type, builtinLookup_eq_fast]; kernel_rfl
theorem zip_no_hint : typeLookup (.type "zip") "__length_hint__" = pure none := by rw [typeLookup_type, builtinLookup_eq_fast]; kernel_rfl
end F
/-- the cells of a zip of three tuples: z, TI, TO, the three iterators; what they read -/
structure Z3 (h : Heap) (z TI TO i1 i2 i3 l1 l2 l3 : Addr) (f0 : Value) (f : Bool) (k : Nat) : Prop where
  zz : IsZ h z TI TO f0 f
  ti : IsTupOf3 h TI (.ref i1) (.ref i2) (.ref i3)
  n1 : h.IsTupleIter i1 l1 k
  n2 : h.IsTupleIter i2 l2 k
  n3 : h.IsTupleIter i3 l3 k
structure Z3D (z TI i1 i2 i3 l1 l2 l3 : Addr) : Prop where
  zT : TI ≠ z
  z1 : i1 ≠ z
  z2 : i2 ≠ z
  z3 : i3 ≠ z
  i12 : i1 ≠ i2
  i13 : i1 ≠ i3
  i23 : i2 ≠ i3
  T1 : TI ≠ i1
  T2 : TI ≠ i2
  T3 : TI ≠ i3
  lz : l1 ≠ z ∧ l2 ≠ z ∧ l3 ≠ z
  lA : l1 ≠ i1 ∧ l2 ≠ i1 ∧ l3 ≠ i1
  lB : l1 ≠ i2 ∧ l2 ≠ i2 ∧ l3 ≠ i2
  lC : l1 ≠ i3 ∧ l2 ≠ i3 ∧ l3 ≠ i3
section
variable {prog : Program} {w : World} {A : Around} {E : Value → Shared → Prop} {s : Shared}
/-- what it gave out last is still held: it isn't free -/
theorem z_held {z TI TO T : Addr} {f : Bool} {o : Obj} {Q : Bool → Shared → Prop} (hz : IsZ s.heap z TI TO (rawInt T) f) (ha : s.heap.get? T = some o)
    (q2 : ∀ h', IsZ h' z TI TO (rawInt T) true → Heap.SameBut z s.heap h' → Q false { s with heap := h' }) : wpAny (model prog w) A (Builtin.SmallTypes.ownedTupleIsFree (.ref z)) Q E s := by
  unfold Builtin.SmallTypes.ownedTupleIsFree
  refine wpAny_bind (wpAny_field hz rfl (x := rawInt T) rfl ?_)
  show wpAny _ _ (loadIfAlive ((T : Int).toNat) >>= _) _ _ _
  have go : ∀ {Q' : Option Obj → Shared → Prop}, Q' (s.heap.get? T) s → wpAny (model prog w) A (loadIfAlive T) Q' E s := fun h _ _ _ => h
  rw [Int.toNat_natCast]
  refine wpAny_bind (go ?_)
  rw [ha]
  simp only [Option.isNone_some, Bool.false_eq_true, if_false]
  refine wpAny_bind (wpAny_field hz rfl (x := .bool f) rfl ?_)
  cases f with
  | true =>
    rw [if_neg (by intro z; cases z)]
    exact wpAny_pure (q2 s.heap hz (Heap.SameBut.refl _ _))
  | false =>
    rw [if_pos (by rfl)]
    exact wpAny_bind (wpAny_setField_rec hz (by simp) fun h₁ e₁ k₁ => wpAny_pure (q2 h₁ e₁ k₁))
/-- the next triple, what it gave out last being held -/
theorem z3_item {z TI TO i1 i2 i3 l1 l2 l3 T : Addr} {f : Bool} {k : Nat} {o : Obj} {xs ys zs : Array Value} {x y u : Value} {Q : Value → Shared → Prop} (D : Z3D z TI i1 i2 i3 l1 l2 l3)
    (hz : Z3 s.heap z TI TO i1 i2 i3 l1 l2 l3 (rawInt T) f k) (ha : s.heap.get? T = some o)
    (hl1 : s.heap.IsTuple l1 xs) (hl2 : s.heap.IsTuple l2 ys) (hl3 : s.heap.IsTuple l3 zs) (hx : xs[k]? = some x) (hy : ys[k]? = some y) (hu : zs[k]? = some u)
    (hQ : ∀ h', Z3 h' z TI TO i1 i2 i3 l1 l2 l3 (rawInt T) true (k + 1) → IsTupOf3 h' s.heap.objs.size x y u → h'.objs.size = s.heap.objs.size + 1 →
      (∀ c o, c ≠ z → c ≠ i1 → c ≠ i2 → c ≠ i3 → s.heap.get? c = some o → h'.get? c = some o) → Q (.ref s.heap.objs.size) { s with heap := h' }) :
    wpAny (model prog w) A (Builtin.«zip.__next__» ⟨[.ref z], []⟩) (fun fin s' => ∃ v, fin = .done (.ret v) ∧ Q v s') E s := by
  show wpAny _ _ (field (.ref z) 2 >>= _) _ _ _
  refine wpAny_bind (wpAny_field hz.zz rfl (x := .bool false) rfl ?_)
  show wpAny _ _ (field (.ref z) 3 >>= _) _ _ _
  refine wpAny_bind (wpAny_field hz.zz rfl (x := .ref TI) rfl (wpAny_bind (m := seqItems? (.ref TI)) (wpAny_seqItems hz.ti rfl ?_)))
  show wpAny _ _ (Builtin.SmallTypes.ownedTupleIsFree (.ref z) >>= _) _ _ _
  refine wpAny_bind (z_held hz.zz ha fun h₁ z₁ s₁ => ?_)
  simp only [Bool.false_eq_true, if_false]
  refine wpAny_bind ?_
  rw [← Array.forIn_toList]
  simp only [List.forIn_cons, List.forIn_nil]
  refine wpAny_bind (wpAny_bind (wpAny_holding ?_))
  show wpAny _ _ (Builtin.SmallTypes.nextOf (.ref i1) >>= _) _ _ _
  refine wpAny_bind (RZ.nextOf_tuple_item (hz.n1.extBut s₁.extBut D.z1) (hl1.extBut s₁.extBut D.lz.1) hx fun h₂ n₂ s₂ => wpAny_pure (wpAny_pure (wpAny_bind (wpAny_bind (wpAny_holding ?_)))))
  show wpAny _ _ (Builtin.SmallTypes.nextOf (.ref i2) >>= _) _ _ _
  refine wpAny_bind (RZ.nextOf_tuple_item ((hz.n2.extBut s₁.extBut D.z2).extBut s₂.extBut D.i12.symm) ((hl2.extBut s₁.extBut D.lz.2.1).extBut s₂.extBut D.lA.2.1) hy fun h₃ n₃ s₃ => wpAny_pure (wpAny_pure (wpAny_bind (wpAny_bind (wpAny_holding ?_)))))
  show wpAny _ _ (Builtin.SmallTypes.nextOf (.ref i3) >>= _) _ _ _
  refine wpAny_bind (RZ.nextOf_tuple_item (((hz.n3.extBut s₁.extBut D.z3).extBut s₂.extBut D.i13.symm).extBut s₃.extBut D.i23.symm) (((hl3.extBut s₁.extBut D.lz.2.2).extBut s₂.extBut D.lA.2.2).extBut s₃.extBut D.lB.2.2) hu fun h₄ n₄ s₄ => wpAny_pure (wpAny_pure (wpAny_pure ?_)))
  show wpAny _ _ (newTuple [x, y, u] >>= _) _ _ _
  refine wpAny_bind (wpAny_newTuple (wpAny_pure ⟨_, rfl, ?_⟩))
  have sz : h₄.objs.size = s.heap.objs.size := by rw [s₄.1, s₃.1, s₂.1, s₁.1]
  have k₄ : ∀ c o, c ≠ z → c ≠ i1 → c ≠ i2 → c ≠ i3 → s.heap.get? c = some o → h₄.get? c = some o := fun c o c1 c2 c3 c4 e => s₄.extBut _ _ c4 (s₃.extBut _ _ c3 (s₂.extBut _ _ c2 (s₁.extBut _ _ c1 e)))
  have z₄ : IsZ h₄ z TI TO (rawInt T) true := s₄.extBut _ _ D.z3.symm (s₃.extBut _ _ D.z2.symm (s₂.extBut _ _ D.z1.symm z₁))
  have m1 : h₄.IsTupleIter i1 l1 (k + 1) := (n₂.extBut s₃.extBut D.i12).extBut s₄.extBut D.i13
  have m2 : h₄.IsTupleIter i2 l2 (k + 1) := n₃.extBut s₄.extBut D.i23
  show Q (.ref h₄.objs.size) _
  have T₄ : IsTupOf3 (h₄.push { cls := .type "tuple", data := .seq #[x, y, u] }) h₄.objs.size x y u := Heap.get?_push_size _ rfl
  have sz4 : (h₄.push { cls := .type "tuple", data := .seq #[x, y, u] }).objs.size = h₄.objs.size + 1 := Heap.size_push ..
  rw [sz] at T₄ sz4 ⊢
  exact hQ _ ⟨Heap.get?_push_of_some _ z₄, Heap.get?_push_of_some _ (k₄ _ _ D.zT D.T1 D.T2 D.T3 hz.ti), m1.at fun o e => Heap.get?_push_of_some _ e, m2.at fun o e => Heap.get?_push_of_some _ e, n₄.at fun o e => Heap.get?_push_of_some _ e⟩ T₄ sz4 fun c o c1 c2 c3 c4 e => Heap.get?_push_of_some _ (k₄ c o c1 c2 c3 c4 e)
theorem z3_end {z TI TO i1 i2 i3 l1 l2 l3 T : Addr} {f : Bool} {k : Nat} {o : Obj} {xs : Array Value} {Q : Fin → Shared → Prop} (hh : A.handled = none) (D : Z3D z TI i1 i2 i3 l1 l2 l3)
    (hz : Z3 s.heap z TI TO i1 i2 i3 l1 l2 l3 (rawInt T) f k) (ha : s.heap.get? T = some o) (hl1 : s.heap.IsTuple l1 xs) (hx : xs[k]? = none)
    (hE : ∀ h' e, (∀ c o, c ≠ z → c ≠ i1 → s.heap.get? c = some o → h'.get? c = some o) → (∃ o, h'.get? e = some o ∧ o.cls = .type "StopIteration") → E (.ref e) { s with heap := h' }) :
    wpAny (model prog w) A (Builtin.«zip.__next__» ⟨[.ref z], []⟩) Q E s := by
  show wpAny _ _ (field (.ref z) 2 >>= _) _ _ _
  refine wpAny_bind (wpAny_field hz.zz rfl (x := .bool false) rfl ?_)
  show wpAny _ _ (field (.ref z) 3 >>= _) _ _ _
  refine wpAny_bind (wpAny_field hz.zz rfl (x := .ref TI) rfl (wpAny_bind (m := seqItems? (.ref TI)) (wpAny_seqItems hz.ti rfl ?_)))
  show wpAny _ _ (Builtin.SmallTypes.ownedTupleIsFree (.ref z) >>= _) _ _ _
  refine wpAny_bind (z_held hz.zz ha fun h₁ z₁ s₁ => ?_)
  simp only [Bool.false_eq_true, if_false]
  refine wpAny_bind ?_
  rw [← Array.forIn_toList]
  simp only [List.forIn_cons, List.forIn_nil]
  refine wpAny_bind (wpAny_bind (wpAny_holding ?_))
  show wpAny _ _ (Builtin.SmallTypes.nextOf (.ref i1) >>= _) _ _ _
  refine wpAny_bind (RZ.nextOf_tuple_end hh (hz.n1.extBut s₁.extBut D.z1) (hl1.extBut s₁.extBut D.lz.1) hx fun h₂ e s₂ he => ?_)
  exact hE h₂ e (fun c o c1 c2 q => s₂ _ _ c2 (s₁.extBut _ _ c1 q)) he
theorem z3_next {z TI TO i1 i2 i3 l1 l2 l3 T : Addr} {f : Bool} {k : Nat} {o : Obj} {xs ys zs : Array Value} {x y u : Value} {Q : Option Value → Shared → Prop} (D : Z3D z TI i1 i2 i3 l1 l2 l3)
    (hz : Z3 s.heap z TI TO i1 i2 i3 l1 l2 l3 (rawInt T) f k) (ha : s.heap.get? T = some o)
    (hl1 : s.heap.IsTuple l1 xs) (hl2 : s.heap.IsTuple l2 ys) (hl3 : s.heap.IsTuple l3 zs) (hx : xs[k]? = some x) (hy : ys[k]? = some y) (hu : zs[k]? = some u)
    (hQ : ∀ h', Z3 h' z TI TO i1 i2 i3 l1 l2 l3 (rawInt T) true (k + 1) → IsTupOf3 h' s.heap.objs.size x y u → h'.objs.size = s.heap.objs.size + 1 →
      (∀ c o, c ≠ z → c ≠ i1 → c ≠ i2 → c ≠ i3 → s.heap.get? c = some o → h'.get? c = some o) → Q (some (.ref s.heap.objs.size)) { s with heap := h' }) :
    wpAny (model prog w) A (pyNext (.ref z)) Q E s := by
  have hT : s.TypeIs (.ref z) "zip" := ⟨_, hz.zz, rfl⟩
  unfold pyNext
  exact wpAny_bind (wpAny_attempt (wpAny_callSpecial?_slot (name := Str.ofString "__next__") hT F.slot_zip_next
    (wpAny_call_entry F.slot_zip_next hT F.entry_zip_next (z3_item D hz ha hl1 hl2 hl3 hx hy hu fun h' q1 q2 q3 q4 => wpAny_pure (hQ h' q1 q2 q3 q4)) (F.args_zip_next_1 _))))
theorem z3_stop {z TI TO i1 i2 i3 l1 l2 l3 T : Addr} {f : Bool} {k : Nat} {o : Obj} {xs : Array Value} {Q : Option Value → Shared → Prop} (hh : A.handled = none) (D : Z3D z TI i1 i2 i3 l1 l2 l3)
    (hz : Z3 s.heap z TI TO i1 i2 i3 l1 l2 l3 (rawInt T) f k) (ha : s.heap.get? T = some o) (hl1 : s.heap.IsTuple l1 xs) (hx : xs[k]? = none)
    (hQ : ∀ h', (∀ c o, c ≠ z → c ≠ i1 → s.heap.get? c = some o → h'.get? c = some o) → Q none { s with heap := h' }) :
    wpAny (model prog w) A (pyNext (.ref z)) Q E s := by
  have hT : s.TypeIs (.ref z) "zip" := ⟨_, hz.zz, rfl⟩
  unfold pyNext
  refine wpAny_bind (wpAny_attempt (wpAny_callSpecial?_slot (name := Str.ofString "__next__") hT F.slot_zip_next
    (wpAny_call_entry F.slot_zip_next hT F.entry_zip_next (z3_end hh D hz ha hl1 hx fun h' e hk he => ?_) (F.args_zip_next_1 _))))
  obtain ⟨o, ho, hc⟩ := he
  exact wpAny_bind (wpAny_isInstance (T := "StopIteration") (b := true) ⟨o, ho, hc⟩ isSubtype_stop (wpAny_pure (hQ _ hk)))
end
section
variable {prog : Program} {w : World} {A : Around} {s : Shared} {R : Result → Shared → Prop}
theorem ext_item {S z : Addr} {res : Value} {acc : Array Value} (hn : acc.size + 1 ≤ sizeLine)
    (hnext : wpAny (model prog w) A.in1 (pyNext (.ref z)) (fun o s1 => ∃ v c, o = some v ∧ s1.heap.get? S = some { cls := .type "list", dict := none, data := .seq acc c, slots := #[] } ∧
      codeAny (model prog w) A (.builtin "list.extend.loop" ⟨[.ref S, .ref z, res], []⟩) R { s1 with heap := s1.heap.update S (Obj.mapSeq (·.push v)) }) (fun e s' => R (.error e) s') s) :
    codeAny (model prog w) A (.builtin "list.extend.loop" ⟨[.ref S, .ref z, res], []⟩) R s := by
  refine codeAny_builtin PySem.F.entry_extend_loop ?_
  rw [Around.under_plainId PySem.F.plain_extend_loop _]
  show wpAny _ A.in1 (pyNext (.ref z) >>= _) _ _ _
  refine wpAny_bind (wpAny_mono hnext (fun o s1 h1 => ?_) fun _ _ x => x)
  obtain ⟨v, c, rfl, hS, q⟩ := h1
  show wpAny _ A.in1 (updateSeq S (·.push v) >>= _) _ _ _
  refine wpAny_bind ?_
  exact wpAny_updateSeq hS rfl (wpAny_pure ⟨plainId_quiet PySem.F.plain_extend_loop _, q⟩) (by omega) (by show (acc.push v).size ≤ sizeLine + 1; rw [Array.size_push]; omega)
theorem ext_end {S z : Addr} {res : Value}
    (hnext : wpAny (model prog w) A.in1 (pyNext (.ref z)) (fun o s1 => o = none ∧ R (.ok (.ret res)) s1) (fun e s' => R (.error e) s') s) :
    codeAny (model prog w) A (.builtin "list.extend.loop" ⟨[.ref S, .ref z, res], []⟩) R s := by
  refine codeAny_builtin PySem.F.entry_extend_loop ?_
  rw [Around.under_plainId PySem.F.plain_extend_loop _]
  show wpAny _ A.in1 (pyNext (.ref z) >>= _) _ _ _
  refine wpAny_bind (wpAny_mono hnext (fun o s1 h1 => ?_) fun _ _ x => x)
  obtain ⟨rfl, q⟩ := h1
  exact wpAny_pure q
end
end PySem


set_option Elab.async false
set_option linter.all false
set_option maxRecDepth 100000
set_option maxHeartbeats 2000000
set_option autoImplicit false
namespace PySem
open Sem (wp)
section
variable {prog : Program} {w : World} {A : Around} {s : Shared} {R : Result → Shared → Prop} {N a b c : Addr} {x0 x1 x2 y0 y1 y2 u0 u1 u2 : Value}
theorem gw {N d : Addr} (k : Nat) (hk : k ≤ 6) (h : N + 6 < d) : d ≠ N + k := by simp only [Addr] at *; omega
theorem gw0 {N d : Addr} (h : N + 6 < d) : d ≠ N := by simp only [Addr] at *; omega
theorem z3d (la : a < N) (lb : b < N) (lc : c < N) : Z3D (N + 5) (N + 3) N (N + 1) (N + 2) a b c := by
  constructor <;> (try refine ⟨?_, ?_, ?_⟩) <;> simp only [Addr] at * <;> omega
/-- a zip of three tuples of three, before its first -/
structure Z0 (N a b c : Addr) (x0 x1 x2 y0 y1 y2 u0 u1 u2 : Value) (h : Heap) : Prop where
  hz : IsZip h (N + 5) (N + 3) (N + 4) .none
  hI : IsTupOf3 h (N + 3) (.ref N) (.ref (N + 1)) (.ref (N + 2))
  hO : ∃ p q r, IsTupOf3 h (N + 4) p q r
  n1 : h.IsTupleIter N a 0
  n2 : h.IsTupleIter (N + 1) b 0
  n3 : h.IsTupleIter (N + 2) c 0
  A : h.IsTuple a #[x0, x1, x2]
  B : h.IsTuple b #[y0, y1, y2]
  C : h.IsTuple c #[u0, u1, u2]
theorem Z0.keep {h h' : Heap} (la : a < N) (lb : b < N) (lc : c < N) (z : Z0 N a b c x0 x1 x2 y0 y1 y2 u0 u1 u2 h) (k : ∀ d o, d ≠ N + 6 → h.get? d = some o → h'.get? d = some o) : Z0 N a b c x0 x1 x2 y0 y1 y2 u0 u1 u2 h' := by
  have q : ∀ {d : Nat}, d < N + 6 → d ≠ N + 6 := fun h => Nat.ne_of_lt h
  obtain ⟨hz, hI, ⟨p, q', r, hO⟩, n1, n2, n3, A, B, C⟩ := z
  exact ⟨k _ _ (q (by omega)) hz, k _ _ (q (by omega)) hI, ⟨p, q', r, k _ _ (q (by omega)) hO⟩, n1.at fun o e => k _ _ (q (by omega)) e, n2.at fun o e => k _ _ (q (by omega)) e, n3.at fun o e => k _ _ (q (by omega)) e,
    A.at fun o e => k _ _ (q (by simp only [Addr] at *; omega)) e, B.at fun o e => k _ _ (q (by simp only [Addr] at *; omega)) e, C.at fun o e => k _ _ (q (by simp only [Addr] at *; omega)) e⟩
def L3R (N : Addr) (x0 x1 x2 y0 y1 y2 u0 u1 u2 : Value) (h : Heap) (P : Heap → Nat → Prop) : Prop :=
  ∀ (h' : Heap) (tk cap : Nat) (T0 T1 T2 : Addr), (∀ d o, d < N → h.get? d = some o → h'.get? d = some o) → h'.get? (N + 6) = some { cls := .type "list", dict := none, data := .seq #[.ref T0, .ref T1, .ref T2] cap, slots := #[] } → N + 6 < T0 → T0 < T1 → T1 < T2 →
    IsTupOf3 h' T0 x0 y0 u0 → IsTupOf3 h' T1 x1 y1 u1 → IsTupOf3 h' T2 x2 y2 u2 → P h' tk
theorem loop_z3 {h : Heap} {tk cap : Nat} {res : Value} (hh0 : A.handled = none) (la : a < N) (lb : b < N) (lc : c < N) (z : Z0 N a b c x0 x1 x2 y0 y1 y2 u0 u1 u2 h)
    (hS : h.get? (N + 6) = some { cls := .type "list", dict := none, data := .seq #[] cap, slots := #[] })
    (hR : L3R N x0 x1 x2 y0 y1 y2 u0 u1 u2 h fun h' tk => R (.ok (.ret res)) { s with heap := h', toks := tk }) :
    codeAny (model prog w) A (.builtin "list.extend.loop" ⟨[.ref (N + 6), .ref (N + 5), res], []⟩) R { s with heap := h, toks := tk } := by
  have SP := zip_sep3 (N := N) (fp1 := [a]) (fp2 := [b]) (fp3 := [c]) (fun d hd => by rw [List.mem_singleton] at hd; subst hd; exact la) (fun d hd => by rw [List.mem_singleton] at hd; subst hd; exact lb) (fun d hd => by rw [List.mem_singleton] at hd; subst hd; exact lc)
  have D := z3d la lb lc
  have hh : A.in1.in1.handled = none := hh0
  obtain ⟨hz, hI, ⟨p, q, r, hO⟩, n1, n2, n3, tA, tB, tC⟩ := z
  have bN : N + 6 < h.objs.size := Heap.lt_size hS
  have ne : ∀ {d e : Nat}, d < e → d ≠ e := fun h => Nat.ne_of_lt h
  have en : ∀ {d e : Nat}, e < d → d ≠ e := fun h => Nat.ne_of_gt h
  have lw : ∀ {d k : Nat}, d < N → d ≠ N + k := fun h => Nat.ne_of_lt (Nat.lt_of_lt_of_le h (Nat.le_add_right _ _))
  refine ext_item (acc := #[]) (by rw [sizeLine_eq]; decide) (wpAny_pyNext_zipD3_item (s := { s with heap := h, toks := tk }) SP (Draws.tuple hh N a (ne la) #[x0, x1, x2]) (Draws.tuple hh (N + 1) b (ne (Nat.lt_succ_of_lt lb)) #[y0, y1, y2]) (Draws.tuple hh (N + 2) c (ne (Nat.lt_succ_of_lt (Nat.lt_succ_of_lt lc))) #[u0, u1, u2]) hz hI hO (i := 0) ⟨n1, tA⟩ ⟨n2, tB⟩ ⟨n3, tC⟩ (show 0 < 3 from by decide) (show 0 < 3 from by decide) (show 0 < 3 from by decide)
    fun v1 v2 v3 h1 tk1 p1 p2 p3 z1 O1 m1 m2 m3 T1 sz1 k1 => ?_)
  obtain rfl : x0 = v1 := Option.some.inj p1
  obtain rfl : y0 = v2 := Option.some.inj p2
  obtain rfl : u0 = v3 := Option.some.inj p3
  dsimp only at z1 T1 sz1 k1
  have S1 := k1 (N + 6) _ (en (by omega)) (en (by omega)) (en (by omega)) (en (by omega)) (en (by omega)) hS
  refine ⟨_, _, rfl, S1, ?_⟩
  have S1' := Heap.get?_update_self (Obj.mapSeq (·.push (Value.ref h.objs.size))) S1 rfl
  have up1 : ∀ d o, d ≠ N + 6 → h1.get? d = some o → (h1.update (N + 6) (Obj.mapSeq (·.push (Value.ref h.objs.size)))).get? d = some o := fun d o hb e => (Heap.get?_update_other _ _ (Ne.symm hb)).trans e
  dsimp only
  generalize h1.update (N + 6) (Obj.mapSeq (·.push (Value.ref h.objs.size))) = g1 at S1' up1 ⊢
  replace S1' : g1.get? (N + 6) = some { cls := .type "list", dict := none, data := .seq #[.ref h.objs.size] _, slots := #[] } := S1'
  have gT0 : IsTupOf3 g1 h.objs.size x0 y0 u0 := up1 _ _ (en bN) T1
  have Z1 : Z3 g1 (N + 5) (N + 3) (N + 4) N (N + 1) (N + 2) a b c (rawInt h.objs.size) false 1 := ⟨up1 _ _ (ne (by omega)) z1, up1 _ _ (ne (by omega)) (k1 _ _ (ne (by omega)) (ne (by omega)) (en (by omega)) (en (by omega)) (en (by omega)) hI), m1.1.at fun o e => up1 _ _ (ne (by omega)) e, m2.1.at fun o e => up1 _ _ (ne (by omega)) e, m3.1.at fun o e => up1 _ _ (ne (by omega)) e⟩
  have A1 : g1.IsTuple a #[x0, x1, x2] := m1.2.at fun o e => up1 _ _ (ne (by simp only [Addr] at *; omega)) e
  have B1 : g1.IsTuple b #[y0, y1, y2] := m2.2.at fun o e => up1 _ _ (ne (by simp only [Addr] at *; omega)) e
  have C1 : g1.IsTuple c #[u0, u1, u2] := m3.2.at fun o e => up1 _ _ (ne (by simp only [Addr] at *; omega)) e
  have K1 : ∀ d o, d < N → h.get? d = some o → g1.get? d = some o := fun d o hd e => up1 _ _ (lw hd) (k1 d o (lw hd) (lw hd) (ne hd) (lw hd) (lw hd) e)
  have b0 : h.objs.size < g1.objs.size := Heap.lt_size gT0
  have bN1 : N + 6 < g1.objs.size := Nat.lt_trans bN b0
  refine ext_item (acc := #[.ref h.objs.size]) (by rw [sizeLine_eq]; show 1 + 1 ≤ 16777216; decide) (z3_next (s := { s with heap := g1, toks := tk1 }) D Z1 gT0 A1 B1 C1 rfl rfl rfl fun h2 Z2 T2 sz2 k2 => ?_)
  dsimp only at T2 sz2 k2
  have S2 := k2 (N + 6) _ (en (by omega)) (en (by omega)) (en (by omega)) (en (by omega)) S1'
  refine ⟨_, _, rfl, S2, ?_⟩
  have S2' := Heap.get?_update_self (Obj.mapSeq (·.push (Value.ref g1.objs.size))) S2 rfl
  have up2 : ∀ d o, d ≠ N + 6 → h2.get? d = some o → (h2.update (N + 6) (Obj.mapSeq (·.push (Value.ref g1.objs.size)))).get? d = some o := fun d o hb e => (Heap.get?_update_other _ _ (Ne.symm hb)).trans e
  dsimp only
  generalize h2.update (N + 6) (Obj.mapSeq (·.push (Value.ref g1.objs.size))) = g2 at S2' up2 ⊢
  replace S2' : g2.get? (N + 6) = some { cls := .type "list", dict := none, data := .seq #[.ref h.objs.size, .ref g1.objs.size] _, slots := #[] } := S2'
  have U2 : ∀ d o, d ≠ N + 5 → d ≠ N → d ≠ N + 1 → d ≠ N + 2 → d ≠ N + 6 → g1.get? d = some o → g2.get? d = some o := fun d o c1 c2 c3 c4 c5 e => up2 _ _ c5 (k2 d o c1 c2 c3 c4 e)
  have gT0' : IsTupOf3 g2 h.objs.size x0 y0 u0 := U2 _ _ (gw 5 (by decide) bN) (gw0 bN) (gw 1 (by decide) bN) (gw 2 (by decide) bN) (gw 6 (by decide) bN) gT0
  have gT1 : IsTupOf3 g2 g1.objs.size x1 y1 u1 := up2 _ _ (gw 6 (by decide) bN1) T2
  have Z2' : Z3 g2 (N + 5) (N + 3) (N + 4) N (N + 1) (N + 2) a b c (rawInt h.objs.size) true 2 := ⟨up2 _ _ (ne (by omega)) Z2.zz, up2 _ _ (ne (by omega)) Z2.ti, Z2.n1.at fun o e => up2 _ _ (ne (by omega)) e, Z2.n2.at fun o e => up2 _ _ (ne (by omega)) e, Z2.n3.at fun o e => up2 _ _ (ne (by omega)) e⟩
  have lo : ∀ d o, d < N → g1.get? d = some o → g2.get? d = some o := fun d o hd e => U2 d o (lw hd) (ne hd) (lw hd) (lw hd) (lw hd) e
  have A2 := A1.at fun o e => lo a o la e
  have B2 := B1.at fun o e => lo b o lb e
  have C2 := C1.at fun o e => lo c o lc e
  have b1 : g1.objs.size < g2.objs.size := Heap.lt_size gT1
  have bN2 : N + 6 < g2.objs.size := Nat.lt_trans bN1 b1
  refine ext_item (acc := #[.ref h.objs.size, .ref g1.objs.size]) (by rw [sizeLine_eq]; show 2 + 1 ≤ 16777216; decide) (z3_next (s := { s with heap := g2, toks := tk1 }) D Z2' gT0' A2 B2 C2 rfl rfl rfl fun h3 Z3' T3 sz3 k3 => ?_)
  dsimp only at T3 sz3 k3
  have S3 := k3 (N + 6) _ (en (by omega)) (en (by omega)) (en (by omega)) (en (by omega)) S2'
  refine ⟨_, _, rfl, S3, ?_⟩
  have S3' := Heap.get?_update_self (Obj.mapSeq (·.push (Value.ref g2.objs.size))) S3 rfl
  have up3 : ∀ d o, d ≠ N + 6 → h3.get? d = some o → (h3.update (N + 6) (Obj.mapSeq (·.push (Value.ref g2.objs.size)))).get? d = some o := fun d o hb e => (Heap.get?_update_other _ _ (Ne.symm hb)).trans e
  dsimp only
  generalize h3.update (N + 6) (Obj.mapSeq (·.push (Value.ref g2.objs.size))) = g3 at S3' up3 ⊢
  replace S3' : g3.get? (N + 6) = some { cls := .type "list", dict := none, data := .seq #[.ref h.objs.size, .ref g1.objs.size, .ref g2.objs.size] _, slots := #[] } := S3'
  have U3 : ∀ d o, d ≠ N + 5 → d ≠ N → d ≠ N + 1 → d ≠ N + 2 → d ≠ N + 6 → g2.get? d = some o → g3.get? d = some o := fun d o c1 c2 c3 c4 c5 e => up3 _ _ c5 (k3 d o c1 c2 c3 c4 e)
  have gT0'' : IsTupOf3 g3 h.objs.size x0 y0 u0 := U3 _ _ (gw 5 (by decide) bN) (gw0 bN) (gw 1 (by decide) bN) (gw 2 (by decide) bN) (gw 6 (by decide) bN) gT0'
  have gT1' : IsTupOf3 g3 g1.objs.size x1 y1 u1 := U3 _ _ (gw 5 (by decide) bN1) (gw0 bN1) (gw 1 (by decide) bN1) (gw 2 (by decide) bN1) (gw 6 (by decide) bN1) gT1
  have gT2 : IsTupOf3 g3 g2.objs.size x2 y2 u2 := up3 _ _ (gw 6 (by decide) bN2) T3
  have Z3'' : Z3 g3 (N + 5) (N + 3) (N + 4) N (N + 1) (N + 2) a b c (rawInt h.objs.size) true 3 := ⟨up3 _ _ (ne (by omega)) Z3'.zz, up3 _ _ (ne (by omega)) Z3'.ti, Z3'.n1.at fun o e => up3 _ _ (ne (by omega)) e, Z3'.n2.at fun o e => up3 _ _ (ne (by omega)) e, Z3'.n3.at fun o e => up3 _ _ (ne (by omega)) e⟩
  have lo3 : ∀ d o, d < N → g2.get? d = some o → g3.get? d = some o := fun d o hd e => U3 d o (lw hd) (ne hd) (lw hd) (lw hd) (lw hd) e
  have A3 := A2.at fun o e => lo3 a o la e
  refine ext_end (z3_stop (s := { s with heap := g3, toks := tk1 }) (show A.in1.handled = none from hh0) D Z3'' gT0'' A3 rfl fun h4 k4 => ⟨rfl, ?_⟩)
  dsimp only at k4
  refine hR h4 tk1 _ _ _ _ (fun d o hd e => k4 d o (lw hd) (ne hd) (lo3 d o hd (lo d o hd (K1 d o hd e)))) (k4 _ _ (en (by omega)) (en (by omega)) S3') bN b0 b1 (k4 _ _ (gw 5 (by decide) bN) (gw0 bN) gT0'') (k4 _ _ (gw 5 (by decide) bN1) (gw0 bN1) gT1') (k4 _ _ (gw 5 (by decide) bN2) (gw0 bN2) gT2)
end
end PySem


set_option Elab.async false
set_option linter.all false
set_option maxRecDepth 100000
set_option maxHeartbeats 2000000
set_option autoImplicit false
namespace PySem
open Sem (wp)
section
variable {prog : Program} {w : World} {A : Around} {s : Shared} {R : Result → Shared → Prop} {N a b c : Addr} {x0 x1 x2 y0 y1 y2 u0 u1 u2 : Value}
theorem L3R.up {h h1 : Heap} {P : Heap → Nat → Prop} (r : L3R N x0 x1 x2 y0 y1 y2 u0 u1 u2 h P) (k : ∀ d o, d ≠ N + 6 → h.get? d = some o → h1.get? d = some o) : L3R N x0 x1 x2 y0 y1 y2 u0 u1 u2 h1 P :=
  fun h' tk cap T0 T1 T2 q => r h' tk cap T0 T1 T2 fun d o hd e => q d o hd (k d o (Nat.ne_of_lt (Nat.lt_of_lt_of_le hd (Nat.le_add_right _ _))) e)
theorem zip_hint {z : Addr} {E : Value → Shared → Prop} {Q : Bool → Shared → Prop} (hT : s.TypeIs (.ref z) "zip") (h : Q true s) : wpAny (model prog w) A (Builtin.List.listLengthHint (.ref z)) Q E s := by
  unfold Builtin.List.listLengthHint
  refine wpAny_bind (wpAny_specialOf hT F.zip_no_len ?_)
  show wpAny _ A (specialOf (Value.ref z) (Str.ofString "__length_hint__") >>= _) _ _ _
  refine wpAny_bind (wpAny_specialOf hT F.zip_no_hint ?_)
  exact wpAny_pure h
theorem extend_z3 {cap : Nat} {res : Value} (hh : A.handled = none) (la : a < N) (lb : b < N) (lc : c < N) (z : Z0 N a b c x0 x1 x2 y0 y1 y2 u0 u1 u2 s.heap)
    (hS : s.heap.get? (N + 6) = some { cls := .type "list", dict := none, data := .seq #[] cap, slots := #[] })
    (hR : L3R N x0 x1 x2 y0 y1 y2 u0 u1 u2 s.heap fun h' tk => R (.ok (.ret res)) { s with heap := h', toks := tk }) :
    wpAny (model prog w) A.in1 (Builtin.List.listExtendWith (.ref (N + 6)) (.ref (N + 5)) res)
      (fun fin s' => match fin with | .done f => R (.ok f) s' | .again c' => c'.quiet = true ∧ codeAny (model prog w) A c' R s') (fun e s' => R (.error e) s') s := by
  have hT : s.TypeIs (.ref (N + 5)) "zip" := ⟨_, z.hz, rfl⟩
  unfold Builtin.List.listExtendWith
  refine wpAny_bind (wpAny_typeOf hT ?_)
  have h1 : Builtin.List.listSameRef (.ref (N + 6)) (.ref (N + 5)) = false := by simp [Builtin.List.listSameRef]
  have h2 : (Value.type "zip" == Value.type "list") = false := by decide
  have h3 : (Value.type "zip" == Value.type "tuple") = false := by decide
  simp only [h1, h2, h3, Bool.or_false, Bool.false_eq_true, if_false]
  refine wpAny_bind (wpAny_pyIter_zip z.hz ?_)
  refine wpAny_bind (wpAny_holding (zip_hint hT ?_))
  show wpAny _ A.in1 (rule "list.extend.makes-room" >>= fun _ => Builtin.List.listTouch (.ref (N + 6)) >>= fun _ =>
    again (.builtin "list.extend.loop" ⟨[.ref (N + 6), .ref (N + 5), res], []⟩)) _ _ _
  refine wpAny_bind (wpAny_rule ?_)
  refine wpAny_bind ?_
  show wpAny _ A.in1 (updateSeq (N + 6) (·.push .none) >>= fun _ => updateSeq (N + 6) (·.pop)) _ _ _
  refine wpAny_bind (wpAny_updateSeq hS rfl ?_)
  have hS₂ := Heap.get?_update_self (Obj.mapSeq (·.push Value.none)) hS rfl
  refine wpAny_updateSeq (hz := by seq_fits) hS₂ rfl ?_
  have hS₃ := Heap.get?_update_self (Obj.mapSeq (·.pop)) hS₂ rfl
  have oth : ∀ b o, b ≠ N + 6 → s.heap.get? b = some o → ((s.heap.update (N + 6) (Obj.mapSeq (·.push Value.none))).update (N + 6) (Obj.mapSeq (·.pop))).get? b = some o :=
    fun b o hb e => (Heap.get?_update_other _ _ (Ne.symm hb)).trans ((Heap.get?_update_other _ _ (Ne.symm hb)).trans e)
  refine wpAny_pure ⟨plainId_quiet F.plain_extend_loop _, loop_z3 (s := s) (tk := s.toks) hh la lb lc (z.keep la lb lc oth) hS₃ (hR.up oth)⟩
theorem init_z3 (hh : A.handled = none) (la : a < N) (lb : b < N) (lc : c < N) (z : Z0 N a b c x0 x1 x2 y0 y1 y2 u0 u1 u2 s.heap)
    (hS : s.heap.get? (N + 6) = some { cls := .type "list", data := .seq #[] })
    (hR : L3R N x0 x1 x2 y0 y1 y2 u0 u1 u2 s.heap fun h' tk => R (.ok (.ret .none)) { s with heap := h', toks := tk }) :
    wpAny (model prog w) A.in1 (Builtin.«list.__init__» ⟨[.ref (N + 6), .ref (N + 5)], []⟩)
      (fun fin s' => match fin with | .done f => R (.ok f) s' | .again c' => c'.quiet = true ∧ codeAny (model prog w) A c' R s') (fun e s' => R (.error e) s') s := by
  show wpAny _ A.in1 (do let old ← Builtin.List.listItems (.ref (N + 6)); Builtin.List.listUpdate (.ref (N + 6)) (fun _ => #[]); letGo old.toList.reverse; Builtin.List.listExtendWith (.ref (N + 6)) (.ref (N + 5)) .none) _ _ s
  refine wpAny_bind ?_
  unfold Builtin.List.listItems
  refine wpAny_bind (wpAny_seqItems hS rfl (wpAny_pure ?_))
  show wpAny _ A.in1 (updateSeq (N + 6) (fun _ => #[]) >>= fun _ => letGo (#[] : Array Value).toList.reverse >>= fun _ => Builtin.List.listExtendWith (.ref (N + 6)) (.ref (N + 5)) .none) _ _ s
  refine wpAny_bind (wpAny_updateSeq hS rfl ?_)
  have hS₂ := Heap.get?_update_self (Obj.mapSeq (fun _ => (#[] : Array Value))) hS rfl
  have oth : ∀ b o, b ≠ N + 6 → s.heap.get? b = some o → (s.heap.update (N + 6) (Obj.mapSeq (fun _ => (#[] : Array Value)))).get? b = some o :=
    fun b o hb e => (Heap.get?_update_other _ _ (Ne.symm hb)).trans e
  refine wpAny_bind (wpAny_letGo ?_)
  exact extend_z3 (s := { s with heap := _ }) hh la lb lc (z.keep la lb lc oth) hS₂ (hR.up oth)
end
section
variable {prog : Program} {w : World} {A : Around} {E : Value → Shared → Prop} {s : Shared} {N a b c : Addr} {x0 x1 x2 y0 y1 y2 u0 u1 u2 : Value} {Q : Value → Shared → Prop}
theorem call_list_z3 (hh : A.handled = none) (la : a < N) (lb : b < N) (lc : c < N) (z : Z0 N a b c x0 x1 x2 y0 y1 y2 u0 u1 u2 s.heap) (hN : s.heap.objs.size = N + 6)
    (hQ : L3R N x0 x1 x2 y0 y1 y2 u0 u1 u2 s.heap fun h' tk => Q (.ref (N + 6)) { s with heap := h', toks := tk }) :
    wpAny (model prog w) A (call (.type "list") [.ref (N + 5)]) Q E s := by
  refine callType_codes (Q₁ := fun obj s₁ => obj = .ref s.heap.objs.size ∧ s₁ = { s with heap := s.heap.push { cls := .type "list", data := .seq #[] } }) F.called_list (F.typeCall_list_1 _) F.entry_list_init
    (code_list_new _ ⟨rfl, rfl⟩) fun obj s₁ h₁ => ?_
  obtain ⟨rfl, rfl⟩ := h₁
  have hS : (s.heap.push { cls := .type "list", data := .seq #[] }).get? s.heap.objs.size = some { cls := .type "list", data := .seq #[] } := Heap.get?_push_size _ rfl
  have up : ∀ d o, d ≠ N + 6 → s.heap.get? d = some o → (s.heap.push { cls := .type "list", data := .seq #[] }).get? d = some o := fun d o _ e => Heap.get?_push_of_some _ e
  refine ⟨⟨_, hS, rfl⟩, F.args_list_init_2 _ _, ?_⟩
  rw [hN] at hS ⊢
  exact init_z3 (s := { s with heap := _ }) hh la lb lc (z.keep la lb lc up) hS fun h' tk cap T0 T1 T2 q1 q2 q3 q4 q5 q6 q7 q8 => ⟨rfl, hQ.up up h' tk cap T0 T1 T2 q1 q2 q3 q4 q5 q6 q7 q8⟩
end
end PySem
namespace L2
open PySem PySem.Spec PyProof.Rows
section
variable {M : Model} {A : Around} {E : Value → Shared → Prop} {s : Shared} {env : Env}
theorem callWith_typeS {pos p : Pos} {T : String} {e : Expr} {Q : Value → Shared → Prop}
    (h : wpAny M A (eval e env) (fun v s1 => PySem.W.StarOf M A E v (fun vs s2 => wpAny M A (call (.type T) vs) Q E s2) s1) E s) (he : starEach [.Starred e p] env = [(true, eval e env)] := by rfl) :
    wpAny M A (callWith pos (.type T) [] (backTo pos (starEach [.Starred e p] env)) []) Q E s := by
  rw [he]
  unfold callWith
  refine wpAny_bind (wpAny_holding (wpAny_mono (PySem.W.ks_lone (pos := pos) (Q := fun a s1 => wpAny M A (call (.type T) ([] ++ a.pos) a.kw) Q E s1) h) (fun a s₁ h₁ => wpAny_bind (wpAny_standAt ?_)) fun _ _ x => x))
  have hst : (backTo pos [(true, eval e env)]).any (·.1) = true := rfl
  simp only [hst, Bool.true_or]
  refine wpAny_bind (wpAny_pure ?_)
  dsimp only
  exact wpAny_bind (wpAny_mono (wpAny_operating h₁) (fun r s₂ hr => wpAny_bind (wpAny_holding (wpAny_point (wpAny_pure hr)))) fun _ _ x => x)
end
/-- list(zip(*e)), e's value three tuples of three in a tuple -/
def tLZS (K : PySem.W.Frag) (te : TE) : TE := fun σ H Q => te σ H fun v H1 => ∃ (t a b c : Addr) (x0 x1 x2 y0 y1 y2 u0 u1 u2 : V), v = .ref t ∧ SqT K H1 t [.ref a, .ref b, .ref c] ∧ SqT K H1 a [x0, x1, x2] ∧ SqT K H1 b [y0, y1, y2] ∧ SqT K H1 c [u0, u1, u2] ∧
  ∀ p q r l, H1 p = none → H1 q = none → H1 r = none → H1 l = none → q ≠ p → r ≠ p → r ≠ q → l ≠ p → l ≠ q → l ≠ r →
    Q (.ref l) (upd (upd (upd (upd H1 p (.tup [x0, y0, u0])) q (.tup [x1, y1, u1])) r (.tup [x2, y2, u2])) l (.lst [.ref p, .ref q, .ref r]))
theorem vals3 {x y z : V} {us : List Value} (r : Vals [x, y, z] us) : ∃ a b c, us = [a, b, c] ∧ RelV x a ∧ RelV y b ∧ RelV z c := by
  cases r with
  | cons ra rr =>
  cases rr with
  | cons rb rr =>
  cases rr with
  | cons rc rr =>
  cases rr
  exact ⟨_, _, _, rfl, ra, rb, rc⟩
section
variable {X : Cx} {e : Expr} {te : TE}
theorem tup3_ok {H : Hp} {h : Heap} {T : Addr} {x y z : V} {a b c : Value} (e : IsTupOf3 h T a b c) (ra : RelV x a) (rb : RelV y b) (rc : RelV z c) : ObjOk X.prog X.w H h T (.tup [x, y, z]) :=
  ⟨by show 3 ≤ sizeLine; decide, [a, b, c], .cons ra (.cons rb (.cons rc .nil)), ⟨_, e, rfl, _, rfl⟩⟩
theorem pe_listZS {p q1 q2 pos pos2 : Pos} (hc : X.calm = true) (hg : Gl X "list") (hm : X.mg "list" = none) (hg2 : Gl X "zip") (hm2 : X.mg "zip" = none) (he : PE X e te)
    (na : starEach [.Call (.Name "zip" q1) [.Starred e q2] [] pos2] X.env = (false, eval (.Call (.Name "zip" q1) [.Starred e q2] [] pos2) X.env) :: starEach [] X.env := by rfl) (ns : starEach [.Starred e q2] X.env = [(true, eval e X.env)] := by rfl) :
    PE X (.Call (.Name "list" p) [.Call (.Name "zip" q1) [.Starred e q2] [] pos2] [] pos) (tLZS X.K te) := by
  refine ⟨fun pins s σ H Q I h => ?_⟩
  have Z : wpAny (model X.prog X.w) X.A (eval (.Call (.Name "zip" q1) [.Starred e q2] [] pos2) X.env) (fun v s' => wpAny (model X.prog X.w) X.A (call (.type "list") [v]) (EP X pins σ Q) X.xe s') X.xe s := by
    refine Call_ (ld_blt I hg2 hm2 PyProof.Rows.boot_zip (callWith_typeS (thn (he.run pins s σ H _ I h) fun v s1 ⟨y, H1, I1, ry, t, a, b, c, x0, x1, x2, y0, y1, y2, u0, u1, u2, ey, ht, ha, hb, hcc, q⟩ => ?_) ns))
    subst ey
    obtain rfl : v = Value.ref t := ry
    refine StX.star_any I1 (.inl ht) fun us s2 I2 rv => ?_
    obtain ⟨va, vb, vc, rfl, ra, rb, rc⟩ := vals3 rv
    cases ra
    cases rb
    cases rc
    obtain ⟨ua, rva, pa, _⟩ := I2.tuple ha
    obtain ⟨ub, rvb, pb, _⟩ := I2.tuple hb
    obtain ⟨uc, rvc, pc, _⟩ := I2.tuple hcc
    obtain ⟨w0, w1, w2, rfl, r0, r1, r2⟩ := vals3 rva
    obtain ⟨w3, w4, w5, rfl, r3, r4, r5⟩ := vals3 rvb
    obtain ⟨w6, w7, w8, rfl, r6, r7, r8⟩ := vals3 rvc
    have la : a < s2.heap.objs.size := let ⟨_, q, _⟩ := pa; Heap.lt_size q
    have lb : b < s2.heap.objs.size := let ⟨_, q, _⟩ := pb; Heap.lt_size q
    have lc : c < s2.heap.objs.size := let ⟨_, q, _⟩ := pc; Heap.lt_size q
    refine zip_begins3 (begins_tuple a #[w0, w1, w2]) (begins_tuple b #[w3, w4, w5]) (begins_tuple c #[w6, w7, w8]) pa pb pc fun h' hz hI hO h1 h2 h3 hsz hk => ?_
    refine call_list_z3 (s := { s2 with heap := h' }) (N := s2.heap.objs.size) (I2.ok.hd hc) la lb lc ⟨hz, hI, ⟨_, _, _, hO⟩, ⟨_, h1, rfl, rfl⟩, ⟨_, h2, rfl, rfl⟩, ⟨_, h3, rfl, rfl⟩, Heap.IsTuple.at pa fun o e => hk _ o e, Heap.IsTuple.at pb fun o e => hk _ o e, Heap.IsTuple.at pc fun o e => hk _ o e⟩ hsz ?_
    intro h'' tk cap T0 T1 T2 kk hl n0 n1 n2 g0 g1 g2
    have hN : s2.heap.objs.size < s2.heap.objs.size + 6 := by omega
    have le0 : s2.heap.objs.size ≤ T0 := Nat.le_of_lt (Nat.lt_trans hN n0)
    have le1 : s2.heap.objs.size ≤ T1 := Nat.le_trans le0 (Nat.le_of_lt n1)
    have le2 : s2.heap.objs.size ≤ T2 := Nat.le_trans le1 (Nat.le_of_lt n2)
    have f0 := I2.hok.fresh le0
    have f1 := I2.hok.fresh le1
    have f2 := I2.hok.fresh le2
    have f3 := I2.hok.fresh (Nat.le_of_lt hN)
    have d10 : T1 ≠ T0 := Nat.ne_of_gt n1
    have d21 : T2 ≠ T1 := Nat.ne_of_gt n2
    have d20 : T2 ≠ T0 := Nat.ne_of_gt (Nat.lt_trans n1 n2)
    have l0 : s2.heap.objs.size + 6 ≠ T0 := Nat.ne_of_lt n0
    have l1 : s2.heap.objs.size + 6 ≠ T1 := Nat.ne_of_lt (Nat.lt_trans n0 n1)
    have l2 : s2.heap.objs.size + 6 ≠ T2 := Nat.ne_of_lt (Nat.lt_trans (Nat.lt_trans n0 n1) n2)
    have J0 : Inv X pins σ (upd H1 T0 (.tup [x0, y0, u0])) { s2 with heap := h'', toks := tk } := I2.take (h' := h'') (t' := tk) (fun b ob _ e => kk b ob (Heap.lt_size e) (hk _ _ e)) (I2.fpOk le0 f0) (tup3_ok g0 r0 r3 r6)
    have J1 : Inv X pins σ (upd (upd H1 T0 (.tup [x0, y0, u0])) T1 (.tup [x1, y1, u1])) { s2 with heap := h'', toks := tk } := J0.take (h' := h'') (t' := tk) (fun b ob _ e => e) (I2.fpOk le1 (by rw [upd_ne d10]; exact f1)) (tup3_ok g1 r1 r4 r7)
    have J2 : Inv X pins σ (upd (upd (upd H1 T0 (.tup [x0, y0, u0])) T1 (.tup [x1, y1, u1])) T2 (.tup [x2, y2, u2])) { s2 with heap := h'', toks := tk } := J1.take (h' := h'') (t' := tk) (fun b ob _ e => e) (I2.fpOk le2 (by rw [upd_ne d21, upd_ne d20]; exact f2)) (tup3_ok g2 r2 r5 r8)
    have J3 := J2.take (it := s2.heap.objs.size + 6) (o := .lst [.ref T0, .ref T1, .ref T2]) (h' := h'') (t' := tk) (fun b ob _ e => e) (I2.fpOk (Nat.le_of_lt hN) (by rw [upd_ne l2, upd_ne l1, upd_ne l0]; exact f3))
      ⟨by show 3 ≤ sizeLine; decide, [.ref T0, .ref T1, .ref T2], cap, .cons rfl (.cons rfl (.cons rfl .nil)), hl⟩
    exact ⟨.ref (s2.heap.objs.size + 6), _, J3, rfl, q T0 T1 T2 _ f0 f1 f2 f3 d10 d20 d21 l0 l1 l2⟩
  exact Call_ (ld_blt I hg hm boot_list (PyProof.Rows.callWith_type1 (args_cons (wpAny_mono Z (fun v s' k => args_nil k) fun _ _ x => x) na) na))
/-- sum of a tuple of ints -/
def rSumT (K : PySem.W.Frag) : List V → Hp → VK → Prop := fun vs H Q => ∃ (a : Addr) (ns : List Int), vs = [V.ref a] ∧ SqT K H a (ns.map V.int) ∧ Q (.int ns.sum) H
theorem cr_sumT (hc : X.calm = true) : CallR X (.builtin "sum") (rSumT X.K) := by
  intro pins s σ H vs us Q I r h
  obtain ⟨a, ns, rfl, hs, q⟩ := h
  obtain ⟨its, rv, hl, _⟩ := I.tuple hs
  rw [Vals.ref1 r]
  have hi := rv.ints
  obtain ⟨xs, hx⟩ := hi.allInts.items
  have hn : numsOf its.toArray.toList = ns := by rw [show its.toArray.toList = its from rfl, hi.numsOf]
  rw [hx] at hl hn
  rw [nums_intItems] at hn
  refine PySem.W.ktm_sumG (I.ok.hd hc) hl fun h' tk t' hk => ?_
  rw [preSum_eq, List.take_of_length_le (by simp), hn]
  exact ⟨.int _, H, I.kept hk, ⟨_, rfl⟩, q⟩
end
/-! ### a comprehension within a comprehension: its scope is the outer one's, labelled anew -/
theorem lookup_rl {env : Env} {x : Str} : ∀ {names : List (Str × NameKind)}, (names.lookup x = some .cell ∨ names.lookup x = some .free) →
    ((names.map fun (n, k) => if (k == NameKind.free && env.scope.kind == .function && env.kindOf n == some .cell) then (n, NameKind.cell) else (n, k)).lookup x = some .cell ∨
     (names.map fun (n, k) => if (k == NameKind.free && env.scope.kind == .function && env.kindOf n == some .cell) then (n, NameKind.cell) else (n, k)).lookup x = some .free)
  | [], h => by rcases h with h | h <;> cases h
  | (n, k) :: r, h => by
    have ih := @lookup_rl env x r
    rw [List.map_cons]
    dsimp only
    by_cases e : (x == n) = true
    · have q : ∀ b : NameKind, List.lookup x ((n, b) :: r) = some b := fun b => by simp only [List.lookup, e]
      rw [q] at h
      have q2 : ∀ (b : NameKind) (l : List (Str × NameKind)), List.lookup x ((n, b) :: l) = some b := fun b l => by simp only [List.lookup, e]
      by_cases c : (k == NameKind.free && env.scope.kind == .function && env.kindOf n == some .cell) = true
      · rw [if_pos c, q2]; exact .inl rfl
      · rw [if_neg c, q2]; exact h
    · have e' : (x == n) = false := by cases hh : (x == n) <;> simp_all
      have q2 : ∀ (b : NameKind) (l : List (Str × NameKind)), List.lookup x ((n, b) :: l) = List.lookup x l := fun b l => by simp only [List.lookup, e']
      rw [q2] at h
      by_cases c : (k == NameKind.free && env.scope.kind == .function && env.kindOf n == some .cell) = true
      · rw [if_pos c, q2]; exact ih h
      · rw [if_neg c, q2]; exact ih h
theorem blkOk_rl {N : List Str} {sc scope : Scope} {env : Env} {own : List (Str × Nat)} (h : blkC N sc scope own = true) : BlkOk N (relabel sc env) scope own := by
  have b := blkOk_by h
  exact ⟨b.kind, b.uniq, b.ix, fun y hy e => lookup_rl (b.free y hy e), b.own⟩
end L2


set_option Elab.async false
set_option linter.all false
set_option maxRecDepth 100000
set_option maxHeartbeats 2000000
set_option autoImplicit false
namespace Hc
/-- the lots of a line by its roads: U (n + 4) of them leave no three roads silent, half of all -/
def U : Nat → Int
  | 0 => -1
  | 1 => 1
  | 2 => 0
  | n + 3 => U n + U (n + 1) + U (n + 2)
theorem U3 (n : Nat) : U (n + 3) = U n + U (n + 1) + U (n + 2) := by rw [U]
structure M3 where
  a : Int
  b : Int
  c : Int
  d : Int
  e : Int
  f : Int
  g : Int
  h : Int
  i : Int
def mul3 (x y : M3) : M3 :=
  ⟨x.a * y.a + x.b * y.d + x.c * y.g, x.a * y.b + x.b * y.e + x.c * y.h, x.a * y.c + x.b * y.f + x.c * y.i,
   x.d * y.a + x.e * y.d + x.f * y.g, x.d * y.b + x.e * y.e + x.f * y.h, x.d * y.c + x.e * y.f + x.f * y.i,
   x.g * y.a + x.h * y.d + x.i * y.g, x.g * y.b + x.h * y.e + x.i * y.h, x.g * y.c + x.h * y.f + x.i * y.i⟩
theorem ext3 {x y : M3} (h1 : x.a = y.a) (h2 : x.b = y.b) (h3 : x.c = y.c) (h4 : x.d = y.d) (h5 : x.e = y.e) (h6 : x.f = y.f) (h7 : x.g = y.g) (h8 : x.h = y.h) (h9 : x.i = y.i) : x = y := by
  cases x; cases y; simp_all
theorem mul3_assoc (x y z : M3) : mul3 (mul3 x y) z = mul3 x (mul3 y z) := by
  apply ext3 <;> simp only [mul3] <;> grind
def one3 : M3 := ⟨1, 0, 0, 0, 1, 0, 0, 0, 1⟩
def step3 : M3 := ⟨1, 1, 0, 1, 0, 1, 1, 0, 0⟩
/-- the k-th power of step3 -/
def Pw (k : Nat) : M3 := ⟨U (k + 4), U (k + 3), U (k + 2), U (k + 3) + U (k + 2), U (k + 2) + U (k + 1), U (k + 1) + U k, U (k + 3), U (k + 2), U (k + 1)⟩
theorem Pw_zero : Pw 0 = one3 := rfl
theorem Pw_one : Pw 1 = step3 := rfl
theorem Pw_succ (k : Nat) : Pw (k + 1) = mul3 (Pw k) step3 := by
  have e3 := U3 k
  have e4 := U3 (k + 1)
  have e5 := U3 (k + 2)
  apply ext3 <;> simp only [mul3, Pw, step3] <;> simp only [Nat.add_assoc, Nat.reduceAdd] at * <;> grind
theorem mul3_one (x : M3) : mul3 x one3 = x := by
  apply ext3 <;> simp only [mul3, one3] <;> grind
theorem Pw_mul (j : Nat) : ∀ k, mul3 (Pw j) (Pw k) = Pw (j + k)
  | 0 => by rw [Pw_zero, mul3_one]; rfl
  | k + 1 => by rw [Pw_succ, ← mul3_assoc, Pw_mul j k, ← Pw_succ]; rfl
/-! ### what is alike by a modulus -/
def Cg (m x y : Int) : Prop := x % m = y % m
theorem Cg.rfl' {m x : Int} : Cg m x x := rfl
theorem Cg.add {m a b c d : Int} (h : Cg m a b) (k : Cg m c d) : Cg m (a + c) (b + d) := by
  unfold Cg at *; rw [Int.add_emod, h, k, ← Int.add_emod]
theorem Cg.mul {m a b c d : Int} (h : Cg m a b) (k : Cg m c d) : Cg m (a * c) (b * d) := by
  unfold Cg at *; rw [Int.mul_emod, h, k, ← Int.mul_emod]
theorem Cg.sub {m a b c d : Int} (h : Cg m a b) (k : Cg m c d) : Cg m (a - c) (b - d) := by
  unfold Cg at *; rw [Int.sub_emod, h, k, ← Int.sub_emod]
theorem Cg.mod {m a b : Int} (h : Cg m a b) : Cg m (a % m) b := by unfold Cg at *; rw [Int.emod_emod, h]
theorem Cg.fmod {m a b : Int} (hm : 0 < m) (h : Cg m a b) : Cg m (a.fmod m) b := by rw [Int.fmod_eq_emod_of_nonneg _ (by omega)]; exact h.mod
theorem Cg.eq {m a b : Int} (hm : 0 < m) (h : Cg m a b) : a.fmod m = b.fmod m := by rw [Int.fmod_eq_emod_of_nonneg _ (by omega), Int.fmod_eq_emod_of_nonneg _ (by omega)]; exact h
structure CgM (m : Int) (x y : M3) : Prop where
  a : Cg m x.a y.a
  b : Cg m x.b y.b
  c : Cg m x.c y.c
  d : Cg m x.d y.d
  e : Cg m x.e y.e
  f : Cg m x.f y.f
  g : Cg m x.g y.g
  h : Cg m x.h y.h
  i : Cg m x.i y.i
theorem CgM.rfl' {m : Int} {x : M3} : CgM m x x := ⟨.rfl', .rfl', .rfl', .rfl', .rfl', .rfl', .rfl', .rfl', .rfl'⟩
/-- the product, its numbers by the modulus -/
def mulm (m : Int) (x y : M3) : M3 :=
  let z := mul3 x y
  ⟨z.a.fmod m, z.b.fmod m, z.c.fmod m, z.d.fmod m, z.e.fmod m, z.f.fmod m, z.g.fmod m, z.h.fmod m, z.i.fmod m⟩
theorem CgM.mul {m : Int} (hm : 0 < m) {x y x' y' : M3} (p : CgM m x x') (q : CgM m y y') : CgM m (mulm m x y) (mul3 x' y') := by
  have dot : ∀ {a b c d e f a' b' c' d' e' f' : Int}, Cg m a a' → Cg m b b' → Cg m c c' → Cg m d d' → Cg m e e' → Cg m f f' → Cg m ((a * d + b * e + c * f).fmod m) (a' * d' + b' * e' + c' * f') := fun h1 h2 h3 h4 h5 h6 => (((h1.mul h4).add (h2.mul h5)).add (h3.mul h6)).fmod hm
  exact ⟨dot p.a p.b p.c q.a q.d q.g, dot p.a p.b p.c q.b q.e q.h, dot p.a p.b p.c q.c q.f q.i, dot p.d p.e p.f q.a q.d q.g, dot p.d p.e p.f q.b q.e q.h, dot p.d p.e p.f q.c q.f q.i,
    dot p.g p.h p.i q.a q.d q.g, dot p.g p.h p.i q.b q.e q.h, dot p.g p.h p.i q.c q.f q.i⟩
theorem CgM.mulP {m : Int} (hm : 0 < m) {x y : M3} {j k : Nat} (p : CgM m x (Pw j)) (q : CgM m y (Pw k)) : CgM m (mulm m x y) (Pw (j + k)) := by
  rw [← Pw_mul]; exact p.mul hm q
/-- all lots that are enough of a line, of a ring -/
def LL (n : Nat) (m : Int) : Int := (2 * U (n + 4)).fmod m
def RL (n : Nat) (m : Int) : Int := (U (n + 4) + U (n + 2) + 2 * U (n + 1)).fmod m
theorem LL_cg {n : Nat} {m : Int} (hm : 0 < m) : Cg m (LL n m) (2 * U (n + 4)) := Cg.fmod hm .rfl'
theorem RL_cg {n : Nat} {m : Int} (hm : 0 < m) : Cg m (RL n m) (U (n + 4) + U (n + 2) + 2 * U (n + 1)) := Cg.fmod hm .rfl'
theorem line_of {n : Nat} {m : Int} (hm : 0 < m) {x : M3} (h : CgM m x (Pw n)) : (2 * (x.a + x.b + x.c)).fmod m = LL (n + 1) m := by
  have e : (2 : Int) * U (n + 1 + 4) = 2 * (U (n + 4) + U (n + 3) + U (n + 2)) := by
    have := U3 (n + 2)
    simp only [Nat.add_assoc, Nat.reduceAdd] at *
    omega
  unfold LL
  rw [e]
  exact Cg.eq hm (Cg.mul .rfl' ((h.a.add h.b).add h.c))
theorem ring_of {n : Nat} {m : Int} (hm : 0 < m) {x : M3} (h : CgM m x (Pw n)) : (x.a + x.e + x.i).fmod m = RL n m := by
  have e : U (n + 4) + U (n + 2) + 2 * U (n + 1) = U (n + 4) + (U (n + 2) + U (n + 1)) + U (n + 1) := by omega
  unfold RL
  rw [e]
  exact Cg.eq hm ((h.a.add h.e).add h.i)
/-- the law's own way: three numbers that follow -/
structure W3 where
  a : Int
  b : Int
  c : Int
structure Ways (m : Int) (x : W3) (k : Nat) : Prop where
  a : Cg m x.a (U (k + 3))
  b : Cg m x.b (U (k + 4))
  c : Cg m x.c (U (k + 5))
def dbl (x : W3) (m : Int) : W3 :=
  let u := x.c - x.b - x.a
  let l := x.b - x.a - u
  ⟨(x.a * x.b + x.a * u + x.a * l + u * u).fmod m, (x.b * x.b + x.a * x.a + 2 * x.a * u).fmod m, (x.b * x.c + x.a * x.b + x.b * u + x.a * x.a).fmod m⟩
def nxt (x : W3) (m : Int) : W3 := ⟨x.b, x.c, (x.a + x.b + x.c).fmod m⟩
theorem ways0 (m : Int) : Ways m ⟨0, 1, 1⟩ 0 := ⟨rfl, rfl, rfl⟩
theorem Ways.nxt {m : Int} (hm : 0 < m) {x : W3} {k : Nat} (h : Ways m x k) : Ways m (nxt x m) (k + 1) := by
  refine ⟨?_, ?_, ?_⟩
  · show Cg m x.b (U (k + 1 + 3)); have := h.b; rw [show k + 1 + 3 = k + 4 by omega]; exact this
  · show Cg m x.c (U (k + 1 + 4)); have := h.c; rw [show k + 1 + 4 = k + 5 by omega]; exact this
  · show Cg m ((x.a + x.b + x.c).fmod m) (U (k + 1 + 5))
    rw [show k + 1 + 5 = k + 3 + 3 by omega, U3]
    exact Cg.fmod hm ((h.a.add h.b).add h.c)
theorem Ways.dbl {m : Int} (hm : 0 < m) {x : W3} {k : Nat} (h : Ways m x k) : Ways m (dbl x m) (2 * k) := by
  have e2 : U (k + 5) - U (k + 4) - U (k + 3) = U (k + 2) := by have := U3 (k + 2); simp only [Nat.add_assoc, Nat.reduceAdd] at this; omega
  have e1 : U (k + 4) - U (k + 3) - U (k + 2) = U (k + 1) := by have := U3 (k + 1); simp only [Nat.add_assoc, Nat.reduceAdd] at this; omega
  have hu : Cg m (x.c - x.b - x.a) (U (k + 2)) := by rw [← e2]; exact (h.c.sub h.b).sub h.a
  have hl : Cg m (x.b - x.a - (x.c - x.b - x.a)) (U (k + 1)) := by rw [← e1]; exact (h.b.sub h.a).sub hu
  have pp := Pw_mul k k
  have pq := Pw_mul k (k + 1)
  have q4 := congrArg M3.a pp
  have q3 := congrArg M3.b pp
  have q5 := congrArg M3.a pq
  simp only [mul3, Pw] at q3 q4 q5
  refine ⟨?_, ?_, ?_⟩
  · have e : U (2 * k + 3) = U (k + 3) * U (k + 4) + U (k + 3) * U (k + 2) + U (k + 3) * U (k + 1) + U (k + 2) * U (k + 2) := by
      rw [show 2 * k + 3 = k + k + 3 by omega, ← q3]; grind
    show Cg m _ (U (2 * k + 3))
    rw [e]
    exact Cg.fmod hm ((((h.a.mul h.b).add (h.a.mul hu)).add (h.a.mul hl)).add (hu.mul hu))
  · have e : U (2 * k + 4) = U (k + 4) * U (k + 4) + U (k + 3) * U (k + 3) + 2 * U (k + 3) * U (k + 2) := by
      rw [show 2 * k + 4 = k + k + 4 by omega, ← q4]; grind
    show Cg m _ (U (2 * k + 4))
    rw [e]
    exact Cg.fmod hm (((h.b.mul h.b).add (h.a.mul h.a)).add ((Cg.mul .rfl' h.a).mul hu))
  · have e : U (2 * k + 5) = U (k + 4) * U (k + 5) + U (k + 3) * U (k + 4) + U (k + 4) * U (k + 2) + U (k + 3) * U (k + 3) := by
      rw [show 2 * k + 5 = k + (k + 1) + 4 by omega, ← q5, show k + 1 + 4 = k + 5 by omega, show k + 1 + 3 = k + 4 by omega, show k + 1 + 2 = k + 3 by omega]; grind
    show Cg m _ (U (2 * k + 5))
    rw [e]
    exact Cg.fmod hm ((((h.b.mul h.c).add (h.a.mul h.b)).add (h.b.mul hu)).add (h.a.mul h.a))
theorem ways_line {m : Int} (hm : 0 < m) {x : W3} {k : Nat} (h : Ways m x k) : (2 * x.c).fmod m = LL (k + 1) m := by
  unfold LL
  rw [show k + 1 + 4 = k + 5 by omega]
  exact Cg.eq hm (Cg.mul .rfl' h.c)
theorem ways_ring {m : Int} (hm : 0 < m) {x : W3} {k : Nat} (h : Ways m x k) : (3 * x.c - x.a - 2 * x.b).fmod m = RL (k + 1) m := by
  have e : U (k + 1 + 4) + U (k + 1 + 2) + 2 * U (k + 1 + 1) = 3 * U (k + 5) - U (k + 3) - 2 * U (k + 4) := by
    have := U3 (k + 2)
    simp only [Nat.add_assoc, Nat.reduceAdd] at *
    omega
  unfold RL
  rw [e]
  exact Cg.eq hm (((Cg.mul .rfl' h.c).sub h.a).sub (Cg.mul .rfl' h.b))
theorem zero_of {m x : Int} (hm : 0 < m) (h : Cg m x 0) : x.fmod m = 0 := by
  rw [Cg.eq hm h]; exact Int.zero_fmod m
theorem rings_by_lines {m : Int} (hm : 0 < m) (k : Nat) : (2 * RL (k + 3) m - (LL (k + 3) m + LL (k + 1) m + 2 * LL k m)).fmod m = 0 := by
  refine zero_of hm ?_
  have e : (0 : Int) = 2 * (U (k + 3 + 4) + U (k + 3 + 2) + 2 * U (k + 3 + 1)) - (2 * U (k + 3 + 4) + 2 * U (k + 1 + 4) + 2 * (2 * U (k + 4))) := by
    simp only [Nat.add_assoc, Nat.reduceAdd]; omega
  rw [e]
  exact (Cg.mul .rfl' (RL_cg hm)).sub (((LL_cg hm).add (LL_cg hm)).add (Cg.mul .rfl' (LL_cg hm)))
theorem line_cut {m : Int} (hm : 0 < m) (f b : Nat) : (2 * LL (f + b + 4) m - LL (f + 2) m * LL (b + 2) m - LL (f + 1) m * LL (b + 1) m - LL (f + 1) m * LL b m - LL f m * LL (b + 1) m).fmod m = 0 := by
  refine zero_of hm ?_
  have q := congrArg M3.a (Pw_mul (f + 2) (b + 2))
  simp only [mul3, Pw] at q
  have e : (0 : Int) = 2 * (2 * U (f + b + 4 + 4)) - 2 * U (f + 2 + 4) * (2 * U (b + 2 + 4)) - 2 * U (f + 1 + 4) * (2 * U (b + 1 + 4)) - 2 * U (f + 1 + 4) * (2 * U (b + 4)) - 2 * U (f + 4) * (2 * U (b + 1 + 4)) := by
    rw [show f + b + 4 + 4 = f + 2 + (b + 2) + 4 by omega, ← q]
    simp only [Nat.add_assoc, Nat.reduceAdd]
    grind
  rw [e]
  exact ((((Cg.mul .rfl' (LL_cg hm)).sub ((LL_cg hm).mul (LL_cg hm))).sub ((LL_cg hm).mul (LL_cg hm))).sub ((LL_cg hm).mul (LL_cg hm))).sub ((LL_cg hm).mul (LL_cg hm))
end Hc


set_option Elab.async false
set_option linter.all false
set_option maxRecDepth 100000
set_option maxHeartbeats 4000000
set_option autoImplicit false
namespace Hc
open PySem L2
def top (i : Nat) : Stmt := PySem.Challenge.pw_hourcards_k90_whole_great_lines_and_ring.main.body.getD i (.Pass ⟨0, 0, 0, 0⟩)
structure Df (K : PySem.W.Frag) (mg : Str → Option Value) (x : Str) (st : Stmt) (ps : List Str) : Type where
  f : Addr
  fd : FuncData
  F : Fun K x x st f fd
  g : mg x = some (.ref f)
  b : Binds K fd ps []
/-- an own class -/
structure Wf (K : PySem.W.Frag) (mg : Str → Option Value) (x q : Str) (st : Stmt) (ps fs : List Str) : Type where
  C : Addr
  f : Addr
  fd : FuncData
  F : Fun K "__init__" q st f fd
  g : mg x = some (.ref C)
  b : Binds K fd ps []
  mk1 : Mk K C f
  cl : Cls K C
  no : ∀ x ∈ fs, PySem.W.findIn K (.ref C) x = some none
/-- an own error -/
structure Xf (K : PySem.W.Frag) (mg : Str → Option Value) (x q : Str) (st : Stmt) (ps fs : List Str) : Type where
  C : Addr
  f : Addr
  fd : FuncData
  F : Fun K "__init__" q st f fd
  g : mg x = some (.ref C)
  b : Binds K fd ps []
  T : OexC K C
  iC : PySem.W.findIn K (.ref C) "__init__" = some (some (.ref f))
  tI : PySem.W.typeIn K (.ref f) = some (.type "function")
  xf : XfC K C
  te : PySem.W.exmOne K (.ref C) (.ref C) = some true
  no : ∀ x ∈ fs, PySem.W.findIn K (.ref C) x = some none
/-- what isinstance asks of the error class at D, and of its base -/
structure HeF (K : PySem.W.Frag) (mg : Str → Option Value) (D : Addr) : Type where
  C : Addr
  g : mg "HourError" = some (.ref C)
  k1 : PySem.W.kitOne K (.ref D) (.ref C) = some true
  k2 : PySem.W.kitOne K (.ref D) (.type "ValueError") = some true
  ec : ExcC K D
abbrev s_is_integer : Stmt := (top 1)
theorem sc_is_integer : FnScope ["thing"] ["thing"] (defScope s_is_integer) := ⟨rfl, rfl, rfl, by decide +kernel, rfl, by decide +kernel, by decide +kernel⟩
abbrev s_is_between : Stmt := (top 2)
theorem sc_is_between : FnScope ["low", "high", "thing"] ["low", "high", "thing"] (defScope s_is_between) := ⟨rfl, rfl, rfl, by decide +kernel, rfl, by decide +kernel, by decide +kernel⟩
abbrev s_check_number : Stmt := (top 10)
theorem sc_check_number : FnScope ["low", "high", "number"] ["low", "high", "number"] (defScope s_check_number) := ⟨rfl, rfl, rfl, by decide +kernel, rfl, by decide +kernel, by decide +kernel⟩
abbrev s_line_lots : Stmt := (top 12)
theorem sc_line_lots : FnScope ["n", "modulus"] ["n", "modulus"] (defScope s_line_lots) := ⟨rfl, rfl, rfl, by decide +kernel, rfl, by decide +kernel, by decide +kernel⟩
abbrev s_ring_lots : Stmt := (top 13)
theorem sc_ring_lots : FnScope ["n", "modulus", "found", "k"] ["n", "modulus"] (defScope s_ring_lots) := ⟨rfl, rfl, rfl, by decide +kernel, rfl, by decide +kernel, by decide +kernel⟩
abbrev s_step_power : Stmt := (top 14)
theorem sc_step_power : FnScope ["power", "modulus", "found", "square"] ["power", "modulus"] (defScope s_step_power) := ⟨rfl, rfl, rfl, by decide +kernel, rfl, by decide +kernel, by decide +kernel⟩
abbrev s_times_matrix : Stmt := (top 15)
theorem sc_times_matrix : FnScope ["one", "other", "modulus", "columns", "row", "column", "left", "right"] ["one", "other", "modulus"] (defScope s_times_matrix) := ⟨rfl, rfl, rfl, by decide +kernel, rfl, by decide +kernel, by decide +kernel⟩
abbrev s_line_least : Stmt := (top 16)
theorem sc_line_least : FnScope ["n"] ["n"] (defScope s_line_least) := ⟨rfl, rfl, rfl, by decide +kernel, rfl, by decide +kernel, by decide +kernel⟩
abbrev s_ring_least : Stmt := (top 17)
theorem sc_ring_least : FnScope ["n"] ["n"] (defScope s_ring_least) := ⟨rfl, rfl, rfl, by decide +kernel, rfl, by decide +kernel, by decide +kernel⟩
abbrev s_law_hand : Stmt := (top 19)
theorem sc_law_hand : FnScope ["_law_script", "_law_cells", "_law_cell"] ["_law_script"] (defScope s_law_hand) := ⟨rfl, rfl, rfl, by decide +kernel, rfl, by decide +kernel, by decide +kernel⟩
abbrev s_law_draw : Stmt := (top 20)
theorem sc_law_draw : FnScope ["_law_hand_here", "_law_many", "_law_cell", "_law_digit", "_law_number_here"] ["_law_hand_here", "_law_many"] (defScope s_law_draw) := ⟨rfl, rfl, rfl, by decide +kernel, rfl, by decide +kernel, by decide +kernel⟩
abbrev s_law_is_integer : Stmt := (top 21)
theorem sc_law_is_integer : FnScope ["_law_thing"] ["_law_thing"] (defScope s_law_is_integer) := ⟨rfl, rfl, rfl, by decide +kernel, rfl, by decide +kernel, by decide +kernel⟩
abbrev s_law_number : Stmt := (top 22)
theorem sc_law_number : FnScope ["_law_hand_here", "_law_figures", "_law_number_here", "_law_turn"] ["_law_hand_here", "_law_figures"] (defScope s_law_number) := ⟨rfl, rfl, rfl, by decide +kernel, rfl, by decide +kernel, by decide +kernel⟩
abbrev s_law_roads : Stmt := (top 23)
theorem sc_law_roads : FnScope ["_law_hand_here", "_law_which"] ["_law_hand_here"] (defScope s_law_roads) := ⟨rfl, rfl, rfl, by decide +kernel, rfl, by decide +kernel, by decide +kernel⟩
abbrev s_law_modulus : Stmt := (top 24)
theorem sc_law_modulus : FnScope ["_law_hand_here", "_law_which"] ["_law_hand_here"] (defScope s_law_modulus) := ⟨rfl, rfl, rfl, by decide +kernel, rfl, by decide +kernel, by decide +kernel⟩
abbrev s_law_doubled : Stmt := (top 25)
theorem sc_law_doubled : FnScope ["_law_ways_here", "_law_modulus_here", "_law_below", "_law_least_here", "_law_full", "_law_under", "_law_lowest", "_law_longest", "_law_middle", "_law_shortest"] ["_law_ways_here", "_law_modulus_here"] (defScope s_law_doubled) := ⟨rfl, rfl, rfl, by decide +kernel, rfl, by decide +kernel, by decide +kernel⟩
abbrev s_law_ways : Stmt := (top 26)
theorem sc_law_ways : FnScope ["_law_many", "_law_modulus_here", "_law_bits", "_law_left", "_law_turn", "_law_ways_here", "_law_bit"] ["_law_many", "_law_modulus_here"] (defScope s_law_ways) := ⟨rfl, rfl, rfl, by decide +kernel, rfl, by decide +kernel, by decide +kernel⟩
abbrev s_law_counts : Stmt := (top 27)
theorem sc_law_counts : FnScope ["_law_many", "_law_modulus_here", "_law_ways_here", "_law_found"] ["_law_many", "_law_modulus_here"] (defScope s_law_counts) := ⟨rfl, rfl, rfl, by decide +kernel, rfl, by decide +kernel, by decide +kernel⟩
abbrev s_law_least : Stmt := (top 28)
theorem sc_law_least : FnScope ["_law_many", "_law_found"] ["_law_many"] (defScope s_law_least) := ⟨rfl, rfl, rfl, by decide +kernel, rfl, by decide +kernel, by decide +kernel⟩
abbrev s_law_rings_by_lines : Stmt := (top 29)
theorem sc_law_rings_by_lines : FnScope ["_law_many", "_law_modulus_here", "_law_twice", "_law_lines"] ["_law_many", "_law_modulus_here"] (defScope s_law_rings_by_lines) := ⟨rfl, rfl, rfl, by decide +kernel, rfl, by decide +kernel, by decide +kernel⟩
abbrev s_law_cut : Stmt := (top 30)
theorem sc_law_cut : FnScope ["_law_many", "_law_front", "_law_modulus_here", "_law_back", "_law_told", "_law_alone", "_law_later", "_law_earlier"] ["_law_many", "_law_front", "_law_modulus_here"] (defScope s_law_cut) := ⟨rfl, rfl, rfl, by decide +kernel, rfl, by decide +kernel, by decide +kernel⟩
abbrev s_law : Stmt := (top 31)
theorem sc_law : FnScope ["_law_script", "_law_hand_here", "_law_turn", "_law_many", "_law_modulus_here", "_law_front"] ["_law_script"] (defScope s_law) := ⟨rfl, rfl, rfl, by decide +kernel, rfl, by decide +kernel, by decide +kernel⟩
abbrev s_NoNumber___init : Stmt := inClass (top 5) 0
theorem sc_NoNumber___init : FnScope ["self"] ["self"] (defScope s_NoNumber___init) := ⟨rfl, rfl, rfl, by decide +kernel, rfl, by decide +kernel, by decide +kernel⟩
structure Tx (K : PySem.W.Frag) (mg : Str → Option Value) : Type where
  is_integer : Df K mg "is_integer" s_is_integer ["thing"]
  is_between : Df K mg "is_between" s_is_between ["low", "high", "thing"]
  check_number : Df K mg "check_number" s_check_number ["low", "high", "number"]
  line_lots : Df K mg "line_lots" s_line_lots ["n", "modulus"]
  ring_lots : Df K mg "ring_lots" s_ring_lots ["n", "modulus"]
  step_power : Df K mg "step_power" s_step_power ["power", "modulus"]
  times_matrix : Df K mg "times_matrix" s_times_matrix ["one", "other", "modulus"]
  line_least : Df K mg "line_least" s_line_least ["n"]
  ring_least : Df K mg "ring_least" s_ring_least ["n"]
  _law_hand : Df K mg "_law_hand" s_law_hand ["_law_script"]
  _law_draw : Df K mg "_law_draw" s_law_draw ["_law_hand_here", "_law_many"]
  _law_is_integer : Df K mg "_law_is_integer" s_law_is_integer ["_law_thing"]
  _law_number : Df K mg "_law_number" s_law_number ["_law_hand_here", "_law_figures"]
  _law_roads : Df K mg "_law_roads" s_law_roads ["_law_hand_here"]
  _law_modulus : Df K mg "_law_modulus" s_law_modulus ["_law_hand_here"]
  _law_doubled : Df K mg "_law_doubled" s_law_doubled ["_law_ways_here", "_law_modulus_here"]
  _law_ways : Df K mg "_law_ways" s_law_ways ["_law_many", "_law_modulus_here"]
  _law_counts : Df K mg "_law_counts" s_law_counts ["_law_many", "_law_modulus_here"]
  _law_least : Df K mg "_law_least" s_law_least ["_law_many"]
  _law_rings_by_lines : Df K mg "_law_rings_by_lines" s_law_rings_by_lines ["_law_many", "_law_modulus_here"]
  _law_cut : Df K mg "_law_cut" s_law_cut ["_law_many", "_law_front", "_law_modulus_here"]
  law : Df K mg "law" s_law ["_law_script"]
  c_GREATEST : ∃ t, mg "GREATEST" = some (.int 1000000000000000000000000000000 t)
  c_LEAST_LINE : ∃ t, mg "LEAST_LINE" = some (.int 1 t)
  c_LEAST_RING : ∃ t, mg "LEAST_RING" = some (.int 2 t)
  c_STEP : ∃ a, mg "STEP" = some (.ref a) ∧ ∃ p0 p1 p2, ∀ H, SqT K H a [.ref p0, .ref p1, .ref p2] ∧ SqT K H p0 [.int 1, .int 1, .int 0] ∧ SqT K H p1 [.int 1, .int 0, .int 1] ∧ SqT K H p2 [.int 1, .int 0, .int 0]
  x_NoNumber : Xf K mg "NoNumber" "NoNumber.__init__" s_NoNumber___init ["self"] []
  n_isinstance : mg "isinstance" = none
  n_int : mg "int" = none
  n_bool : mg "bool" = none
  n_tuple : mg "tuple" = none
  n_list : mg "list" = none
  n_len : mg "len" = none
  n_abs : mg "abs" = none
  n_range : mg "range" = none
  n_zip : mg "zip" = none
  n_sum : mg "sum" = none
  n_reversed : mg "reversed" = none

section
variable {P : Program} {w : World} {K : PySem.W.Frag} {mg : Str → Option Value} {base : Heap}
def spThing (g : D → Bool) : Sp := fun vs H Q _ => ∃ (h : Addr) (v : V) (d : D), vs = [v] ∧ Rp H h v d ∧ Q (.bl (g d)) H
theorem ok_is_integer (T : Tx K mg) : FnOk P w K mg base CX0 1 T.is_integer.f T.is_integer.fd ["thing"] (spThing isInt) := by
  refine T.is_integer.F.ok sc_is_integer (fun vs H Q E h => ?_) (fun cdv A outer s H vs Q E hr h => ?_)
  · obtain ⟨_, v, d, rfl, _⟩ := h
    rfl
  · obtain ⟨_, v, d, rfl, r, k⟩ := h
    refine ⟨_, (pss_one (ps_ret (pe_and (pe_callB call_isi (by rfl) T.n_isinstance (by decide +kernel) (pa_cons (pv 0) (pa_cons (pe_bltn (v := .ty "int") (by rfl) T.n_int (by decide +kernel) rfl) pa_nil))) (pe_one (pe_not (pe_callB call_isi (by rfl) T.n_isinstance (by decide +kernel) (pa_cons (pv 0) (pa_cons (pe_bltn (v := .ty "bool") (by rfl) T.n_bool (by decide +kernel) rfl) pa_nil)))))))), ?_⟩
    refine ⟨_, rfl, _, _, _, _, _, rfl, .ty "int", r.ty, kit_ty (kitI d), _, rfl, ?_⟩
    cases e : isIB d with
    | false =>
      refine iteF ?_
      have : isInt d = false := by cases d <;> first | rfl | exact Bool.noConfusion e
      rw [this] at k
      exact k
    | true =>
      refine iteT ?_
      refine ⟨_, rfl, _, _, _, _, _, rfl, .ty "bool", r.ty, kit_ty (kitBo d), _, rfl, ?_⟩
      have : (!isB d) = isInt d := by cases d <;> first | rfl | exact Bool.noConfusion e
      rw [this]
      exact k
theorem ok__law_is_integer (T : Tx K mg) : FnOk P w K mg base CX0 1 T._law_is_integer.f T._law_is_integer.fd ["_law_thing"] (spThing isInt) := by
  refine T._law_is_integer.F.ok sc_law_is_integer (fun vs H Q E h => ?_) (fun cdv A outer s H vs Q E hr h => ?_)
  · obtain ⟨_, v, d, rfl, _⟩ := h
    rfl
  · obtain ⟨_, v, d, rfl, r, k⟩ := h
    refine ⟨_, (pss_one (ps_ret (pe_and (pe_callB call_isi (by rfl) T.n_isinstance (by decide +kernel) (pa_cons (pv 0) (pa_cons (pe_bltn (v := .ty "int") (by rfl) T.n_int (by decide +kernel) rfl) pa_nil))) (pe_one (pe_not (pe_callB call_isi (by rfl) T.n_isinstance (by decide +kernel) (pa_cons (pv 0) (pa_cons (pe_bltn (v := .ty "bool") (by rfl) T.n_bool (by decide +kernel) rfl) pa_nil)))))))), ?_⟩
    refine ⟨_, rfl, _, _, _, _, _, rfl, .ty "int", r.ty, kit_ty (kitI d), _, rfl, ?_⟩
    cases e : isIB d with
    | false =>
      refine iteF ?_
      have : isInt d = false := by cases d <;> first | rfl | exact Bool.noConfusion e
      rw [this] at k
      exact k
    | true =>
      refine iteT ?_
      refine ⟨_, rfl, _, _, _, _, _, rfl, .ty "bool", r.ty, kit_ty (kitBo d), _, rfl, ?_⟩
      have : (!isB d) = isInt d := by cases d <;> first | rfl | exact Bool.noConfusion e
      rw [this]
      exact k
theorem int_eqd (a b : Int) : decide (V.int a = V.int b) = decide (a = b) := by
  by_cases e : a = b
  · subst e; simp
  · rw [decide_eq_false e, decide_eq_false fun z => e (V.int.inj z)]
def spBtw : Sp := fun vs H Q _ => ∃ (h : Addr) (lo hi : Int) (v : V) (d : D), vs = [.int lo, .int hi, v] ∧ Rp H h v d ∧ Q (.bl (isBtw lo hi d)) H
theorem ok_is_between (T : Tx K mg) : FnOk P w K mg base CX0 2 T.is_between.f T.is_between.fd ["low", "high", "thing"] spBtw := by
  refine T.is_between.F.ok sc_is_between (fun vs H Q E h => ?_) (fun cdv A outer s H vs Q E hr h => ?_)
  · obtain ⟨_, lo, hi, v, d, rfl, _⟩ := h
    rfl
  · obtain ⟨_, lo, hi, v, d, rfl, r, k⟩ := h
    refine ⟨_, (pss_one (ps_ret (pe_and (pe_call (ok_is_integer T) (hr.mono (by decide)) rfl T.is_integer.g T.is_integer.F.kp T.is_integer.b .nil pass0 (pa_cons (pv 2) pa_nil)) (pe_one (pe_chain op_le op_le (pv 0) (pv 2) (pv 1)))))), ?_⟩
    refine ⟨_, rfl, _, v, d, rfl, r, _, rfl, ?_⟩
    cases r with
    | int i =>
      refine iteT ?_
      refine ⟨_, rfl, _, rfl, _, _, rfl, rfl, _, rfl, ?_⟩
      by_cases h1 : lo ≤ i
      · rw [decide_eq_true h1]
        refine iteT ?_
        refine ⟨_, rfl, _, _, rfl, rfl, ?_⟩
        have : isBtw lo hi (.int i) = decide (i ≤ hi) := by show (decide (lo ≤ i) && decide (i ≤ hi)) = _; rw [decide_eq_true h1]; rfl
        rw [this] at k
        exact k
      · rw [decide_eq_false h1]
        refine iteF ?_
        have : isBtw lo hi (.int i) = false := by show (decide (lo ≤ i) && decide (i ≤ hi)) = _; rw [decide_eq_false h1]; rfl
        rw [this] at k
        exact k
    | _ => exact iteF k
theorem ok_NoNumber___init (T : Tx K mg) : FnOk P w K mg base (L2.CX P w) 1 T.x_NoNumber.f T.x_NoNumber.fd ["self"] spInitN := by
  refine T.x_NoNumber.F.okX sc_NoNumber___init (fun vs H Q E h => ?_) (fun cdv A outer s H vs Q E hr h => ?_)
  · obtain ⟨a, rfl, _⟩ := h
    rfl
  · obtain ⟨a, rfl, k⟩ := h
    exact ⟨_, pss_one ps_pass, k⟩
def spCheck : Sp := fun vs H Q _ => ∃ (lo hi n : Int), vs = [.int lo, .int hi, .int n] ∧ lo ≤ n ∧ n ≤ hi ∧ Q .non H
theorem ok_check_number (T : Tx K mg) : FnOk P w K mg base (L2.CX P w) 4 T.check_number.f T.check_number.fd ["low", "high", "number"] spCheck := by
  refine T.check_number.F.okX sc_check_number (fun vs H Q E h => ?_) (fun cdv A outer s H vs Q E hr h => ?_)
  · obtain ⟨lo, hi, n, rfl, _⟩ := h
    rfl
  · obtain ⟨lo, hi, n, rfl, h1, h2, k⟩ := h
    refine ⟨_, (pss_one (ps_if (pt_not (pt_val (pe_call (ok_is_between T) (hr.mono (by decide)) rfl T.is_between.g T.is_between.F.kp T.is_between.b .nil pass0 (pa_cons (pv 0) (pa_cons (pv 1) (pa_cons (pv 2) pa_nil))))))
      (pss_one (ps_raise rfl (takes_of rfl rfl rfl rfl) (pmk_oexN T.x_NoNumber.T T.x_NoNumber.iC T.x_NoNumber.tI (ok_NoNumber___init T) (hr.mono (by decide)) T.x_NoNumber.b passL rfl T.x_NoNumber.g)))
      pss_nil)), ?_⟩
    refine ⟨_, rfl, _, rfl, _, rfl, 0, lo, hi, _, .int n, rfl, .int n, _, rfl, ?_⟩
    have e : isBtw lo hi (.int n) = true := by show (decide (lo ≤ n) && decide (n ≤ hi)) = true; rw [decide_eq_true h1, decide_eq_true h2]; rfl
    rw [e]
    exact iteF k
end
end Hc


set_option Elab.async false
set_option linter.all false
set_option maxRecDepth 100000
set_option maxHeartbeats 4000000
set_option autoImplicit false
namespace Hc
open PySem L2
/-- the hand: the script's cells at c, and four numbers -/
def HandAt (H : Hp) (h c : Addr) : Prop := ∃ (ns : List Int) (i d s t : Int), H h = some (.lst [.ref c, .int i, .int d, .int s, .int t]) ∧ H c = some (.lst (ns.map V.int)) ∧ 0 ≤ i ∧ c ≠ h
theorem HandAt.lst {H : Hp} {h c : Addr} (a : HandAt H h c) : IsLst H h := by
  obtain ⟨ns, i, d, s, t, e, _⟩ := a
  exact ⟨_, e⟩
theorem HandAt.ne {H : Hp} {h c : Addr} (a : HandAt H h c) {D : Addr} (hD : H D = none) : D ≠ h ∧ D ≠ c := by
  obtain ⟨ns, i, d, s, t, e, hc, _⟩ := a
  exact ⟨fun z => ne_of_none e hD z.symm, fun z => ne_of_none hc hD z.symm⟩
theorem HandAt.upd {H : Hp} {h c : Addr} (a : HandAt H h c) {D : Addr} {o : HO} (h1 : D ≠ h) (h2 : D ≠ c) : HandAt (upd H D o) h c := by
  obtain ⟨ns, i, d, s, t, e, hc, hi, hn⟩ := a
  exact ⟨ns, i, d, s, t, by rw [upd_ne (Ne.symm h1)]; exact e, by rw [upd_ne (Ne.symm h2)]; exact hc, hi, hn⟩
theorem HandAt.mono {H H' : Hp} {h c : Addr} (a : HandAt H h c) (k : Same H H') : HandAt H' h c := by
  obtain ⟨ns, i, d, s, t, e, hc, hi, hn⟩ := a
  exact ⟨ns, i, d, s, t, k _ _ e, k _ _ hc, hi, hn⟩
theorem But.upd {h D : Addr} {H H' : Hp} {o : HO} (k : But h H H') (hD : H D = none) : But h H (upd H' D o) := fun b u e n => by
  rw [upd_ne (ne_of_none e hD)]
  exact k _ _ e n
section
variable {P : Program} {w : World} {K : PySem.W.Frag} {mg : Str → Option Value} {base : Heap}
def spDraw : Sp := fun vs H Q _ => ∃ (h c : Addr) (m : Int), vs = [.ref h, .int m] ∧ HandAt H h c ∧ 0 < m ∧ m < 1000000 ∧
  ∀ n H', 0 ≤ n → n < m → HandAt H' h c → But h H H' → Q (.int n) H'
theorem mod_range (x : Int) {m : Int} (h : 0 < m) : 0 ≤ x.fmod m ∧ x.fmod m < m := by
  rw [Int.fmod_eq_emod_of_nonneg x (by omega)]
  exact ⟨Int.emod_nonneg x (by omega), Int.emod_lt_of_pos x h⟩
theorem ok__law_draw (T : Tx K mg) : FnOk P w K mg base CX0 1 T._law_draw.f T._law_draw.fd ["_law_hand_here", "_law_many"] spDraw := by
  refine T._law_draw.F.ok sc_law_draw (fun vs H Q E h => ?_) (fun cdv A outer s H vs Q E hr h => ?_)
  · obtain ⟨h, c, m, rfl, _⟩ := h
    rfl
  · obtain ⟨h, c, m, rfl, hA, m0, m1, k⟩ := h
    refine ⟨_, (C8.pss_cut (ps_if (PW.pt (pw_and (pt_cmpR op_eq (pe_ix ix_list (pv 0) pe_int (fun _ _ => rfl)) pe_int (nomark _)) (pw_and1 (pt_cmpR op_lt (pe_ix ix_list (pv 0) pe_int (fun _ _ => rfl)) (pe_callB call_len_seq (by rfl) T.n_len (by decide +kernel) (pa_cons (pe_ix ix_list (pv 0) pe_int (fun _ _ => rfl)) pa_nil)) (nomark _)))))
      (pss_cons (ps_set (i := 2) sc_law_draw.nd rfl (Or.inl rfl) (pe_ix ix_list (pe_ix ix_list (pv 0) pe_int (fun _ _ => rfl)) (pe_ix ix_list (pv 0) pe_int (fun _ _ => rfl)) (fun _ _ => rfl)))
      (pss_cons (ps_asg (pe_op op_add (pe_ix ix_list (pv 0) pe_int (fun _ _ => rfl)) pe_int) (pg_sub (pv 0) pe_int set_list))
      (pss_cons (ps_asg (pe_op op_modN (pe_callTy call_int1 (by rfl) T.n_int (by decide +kernel) (pa_cons (pe_op op_add (pe_op op_add (pe_op op_mul (pe_ix ix_list (pv 0) pe_int (fun _ _ => rfl)) pe_int) (pv 2)) pe_int) pa_nil)) pe_int) (pg_sub (pv 0) pe_int set_list))
      (pss_one (ps_if (pt_cmpR op_ge (pv 2) (pe_op op_pow pe_int pe_int) (nomark _))
      (pss_one (ps_asg (pv 2) (pg_sub (pv 0) pe_int set_list)))
      pss_nil)))))
      pss_nil)
      (pss_cons (ps_if (pt_cmpR op_gt (pe_ix ix_list (pv 0) pe_int (fun _ _ => rfl)) pe_int (nomark _))
      (pss_cons (ps_set (i := 3) sc_law_draw.nd rfl (Or.inl rfl) (pe_op op_modN (pe_callTy call_int1 (by rfl) T.n_int (by decide +kernel) (pa_cons (pe_ix ix_list (pv 0) pe_int (fun _ _ => rfl)) pa_nil)) (pv 1)))
      (pss_cons (ps_asg (pe_op op_fdivN (pe_ix ix_list (pv 0) pe_int (fun _ _ => rfl)) (pv 1)) (pg_sub (pv 0) pe_int set_list))
      (pss_one (ps_ret (pv 3)))))
      pss_nil)
      (pss_cons (ps_asg (pe_op op_add (pe_ix ix_list (pv 0) pe_int (fun _ _ => rfl)) pe_int) (pg_sub (pv 0) pe_int set_list))
      (pss_cons (ps_set (i := 4) sc_law_draw.nd rfl (Or.inl rfl) (pe_op op_modN (pe_callTy call_int1 (by rfl) T.n_int (by decide +kernel) (pa_cons (pe_op op_mul (pe_callTy call_int1 (by rfl) T.n_int (by decide +kernel) (pa_cons (pe_op op_add (pe_ix ix_list (pv 0) pe_int (fun _ _ => rfl)) (pe_op op_mul pe_int (pe_ix ix_list (pv 0) pe_int (fun _ _ => rfl)))) pa_nil)) pe_int) pa_nil)) pe_int))
      (pss_cons (ps_set (i := 4) sc_law_draw.nd rfl (Or.inl rfl) (pe_op op_modN (pe_callTy call_int1 (by rfl) T.n_int (by decide +kernel) (pa_cons (pe_op op_mul (pv 4) (pe_op op_add (pe_op op_fdivN (pv 4) pe_int) pe_int)) pa_nil)) pe_int))
      (pss_cons (ps_set (i := 4) sc_law_draw.nd rfl (Or.inl rfl) (pe_op op_modN (pe_callTy call_int1 (by rfl) T.n_int (by decide +kernel) (pa_cons (pe_op op_mul (pv 4) (pe_op op_add (pe_op op_fdivN (pv 4) pe_int) pe_int)) pa_nil)) pe_int))
      (pss_one (ps_ret (pe_op op_modN (pe_callTy call_int1 (by rfl) T.n_int (by decide +kernel) (pa_cons (pe_op op_fdivN (pv 4) pe_int) pa_nil)) (pv 1)))))))))), ?_⟩
    refine ⟨fun σ' H' => ∃ cv : Option V, σ' = [some (.ref h), some (.int m), cv, none, none] ∧ HandAt H' h c ∧ But h H H', ?_, ?_⟩
    · obtain ⟨ns, i, d, s, t, hh, hc, hi, hn⟩ := id hA
      refine ⟨_, rfl, h, _, _, _, rfl, rfl, SqL.of hh, atI_nat (j := 2) rfl, rfl, _, rfl, ?_⟩
      rw [int_eqd]
      by_cases h0 : d = 0
      · rw [decide_eq_true h0]
        refine iteT ?_
        refine ⟨_, rfl, h, _, _, _, rfl, rfl, SqL.of hh, atI_nat (j := 1) rfl, _, rfl, h, _, _, _, rfl, rfl, SqL.of hh, atI_nat (j := 0) rfl, c, _, rfl, .inl (SqL.of hc), _, _, rfl, rfl, _, rfl, ?_⟩
        rw [List.length_map]
        by_cases h1 : i < ns.length
        · rw [decide_eq_true h1]
          refine iteT ?_
          obtain ⟨j, rfl⟩ := Int.eq_ofNat_of_zero_le hi
          have hj : j < ns.length := by omega
          have hx : (ns.map V.int)[j]? = some (.int ns[j]) := by rw [List.getElem?_map, List.getElem?_eq_getElem hj]; rfl
          refine ⟨_, rfl, h, _, _, _, rfl, rfl, SqL.of hh, atI_nat (j := 0) rfl, _, rfl, h, _, _, _, rfl, rfl, SqL.of hh, atI_nat (j := 1) rfl, c, _, _, _, rfl, rfl, SqL.of hc, atI_nat hx, ?_⟩
          -- hand[1] = hand[1] + 1
          refine ⟨_, rfl, h, _, _, _, rfl, rfl, SqL.of hh, atI_nat (j := 1) rfl, _, _, rfl, rfl, _, rfl, h, _, 1, 1, rfl, rfl, hh, rfl, ?_⟩
          -- hand[3] = ..
          refine ⟨_, rfl, h, _, _, _, rfl, rfl, SqL.of upd_same, atI_nat (j := 3) rfl, _, _, rfl, rfl, .inr ⟨by decide, by decide⟩, _, rfl, _, _, rfl, rfl, _, _, rfl, rfl, .inl ⟨_, rfl, _, _, rfl, rfl, (show (2147483629 : Int) ≠ 0 by decide), _, rfl, h, _, 3, 3, rfl, rfl, upd_same, rfl, ?_⟩⟩
          refine ⟨_, rfl, _, _, rfl, rfl, ⟨by decide, by decide, by decide⟩, _, _, rfl, rfl, _, rfl, ?_⟩
          have bt : ∀ {H1 : Hp} {xs}, But h H H1 → But h H (upd H1 h xs) := fun b => b.trans but_upd
          refine ite2 (fun _ => ?_) (fun _ => ?_)
          · refine ⟨_, rfl, _, rfl, h, _, 2, 2, rfl, rfl, upd_same, rfl, ?_⟩
            exact ⟨_, rfl, ⟨ns, _, _, _, _, upd_same, (bt (bt (bt (But.refl h H)))) _ _ hc hn, by omega, hn⟩, bt (bt (bt (But.refl h H)))⟩
          · exact ⟨_, rfl, ⟨ns, _, _, _, _, upd_same, (bt (bt (But.refl h H))) _ _ hc hn, by omega, hn⟩, bt (bt (But.refl h H))⟩
        · rw [decide_eq_false h1]
          exact iteF ⟨_, rfl, hA, But.refl h H⟩
      · rw [decide_eq_false h0]
        exact iteF (iteF ⟨_, rfl, hA, But.refl h H⟩)
    · rintro σ' H1 ⟨cv, rfl, hA1, b1⟩
      obtain ⟨ns, i, d, s, t, hh, hc, hi, hn⟩ := id hA1
      have bt : ∀ {H2 : Hp} {xs}, But h H H2 → But h H (upd H2 h xs) := fun b => b.trans but_upd
      have bu : ∀ {H2 : Hp} {xs}, But h H1 H2 → But h H1 (upd H2 h xs) := fun b => b.trans but_upd
      refine ⟨_, rfl, h, _, _, _, rfl, rfl, SqL.of hh, atI_nat (j := 2) rfl, _, _, rfl, rfl, _, rfl, ?_⟩
      refine ite2 (fun _ => ?_) (fun _ => ?_)
      · refine ⟨_, rfl, h, _, _, _, rfl, rfl, SqL.of hh, atI_nat (j := 2) rfl, .inl ⟨_, rfl, _, rfl, _, _, rfl, rfl, by omega, ?_⟩⟩
        refine ⟨_, rfl, h, _, _, _, rfl, rfl, SqL.of hh, atI_nat (j := 2) rfl, _, rfl, _, _, rfl, rfl, ⟨by omega, by omega⟩, _, rfl, h, _, 2, 2, rfl, rfl, hh, rfl, ?_⟩
        obtain ⟨q1, q2⟩ := mod_range d m0
        exact ⟨_, rfl, k _ _ q1 q2 ⟨ns, _, _, _, _, upd_same, (bu (But.refl h H1)) _ _ hc hn, hi, hn⟩ (bt b1)⟩
      · refine ⟨_, rfl, h, _, _, _, rfl, rfl, SqL.of hh, atI_nat (j := 4) rfl, _, _, rfl, rfl, _, rfl, h, _, 4, 4, rfl, rfl, hh, rfl, ?_⟩
        refine ⟨_, rfl, h, _, _, _, rfl, rfl, SqL.of upd_same, atI_nat (j := 3) rfl, _, rfl, h, _, _, _, rfl, rfl, SqL.of upd_same, atI_nat (j := 4) rfl, _, _, rfl, rfl, .inl ⟨by decide, by decide⟩, _, _, rfl, rfl, .inl ⟨_, rfl, _, _, rfl, rfl, .inr ⟨by decide, by decide⟩, .inl ⟨_, rfl, _, _, rfl, rfl, (show (2147483647 : Int) ≠ 0 by decide), ?_⟩⟩⟩
        obtain ⟨u1, u2⟩ := mod_range ((s + 7919 * (t + 1)) * 48271) (m := 2147483647) (by decide)
        obtain ⟨x, hx⟩ : ∃ x, x = ((s + 7919 * (t + 1)) * 48271).fmod 2147483647 := ⟨_, rfl⟩
        rw [← hx] at u1 u2
        refine ⟨_, rfl, _, rfl, _, _, rfl, rfl, ⟨by decide, by decide⟩, _, _, rfl, rfl, _, _, rfl, rfl, .inl ⟨by rw [← hx]; omega, by rw [← hx]; omega⟩, .inl ⟨_, rfl, _, _, rfl, rfl, (show (2147483647 : Int) ≠ 0 by decide), ?_⟩⟩
        rw [← hx]
        obtain ⟨u1, u2⟩ := mod_range (x * (x.fdiv 1009 + 69621)) (m := 2147483647) (by decide)
        obtain ⟨y, hy⟩ : ∃ y, y = (x * (x.fdiv 1009 + 69621)).fmod 2147483647 := ⟨_, rfl⟩
        rw [← hy] at u1 u2
        refine ⟨_, rfl, _, rfl, _, _, rfl, rfl, ⟨by decide, by decide⟩, _, _, rfl, rfl, _, _, rfl, rfl, .inl ⟨by rw [← hy]; omega, by rw [← hy]; omega⟩, .inl ⟨_, rfl, _, _, rfl, rfl, (show (2147483399 : Int) ≠ 0 by decide), ?_⟩⟩
        rw [← hy]
        refine ⟨_, rfl, _, _, rfl, rfl, ⟨by decide, by decide⟩, .inl ⟨_, rfl, _, rfl, _, _, rfl, rfl, by omega, ?_⟩⟩
        obtain ⟨q1, q2⟩ := mod_range (((y * (y.fdiv 2003 + 40692)).fmod 2147483399).fdiv 16) m0
        exact k _ _ q1 q2 ⟨ns, _, _, _, _, upd_same, (bu (But.refl h H1)) _ _ hc hn, hi, hn⟩ (bt b1)
end
end Hc


set_option Elab.async false
set_option linter.all false
set_option maxRecDepth 100000
set_option maxHeartbeats 4000000
set_option autoImplicit false
namespace Hc
open PySem L2
theorem But.del {h p : Addr} {H H' : Hp} (k : But h H H') : But h (del H p) (del H' p) := fun b o e n => by
  by_cases z : b = p
  · subst z; rw [del_same] at e; cases e
  · rw [del_ne z] at e ⊢; exact k _ _ e n
theorem del_upd {H : Hp} {p : Addr} {o : HO} : del (upd H p o) p = del H p := by
  funext b
  by_cases z : b = p
  · subst z; rw [del_same, del_same]
  · rw [del_ne z, del_ne z, upd_ne z]
theorem del_sub {H : Hp} {p : Addr} : Same (del H p) H := fun b o e => by
  by_cases z : b = p
  · subst z; rw [del_same] at e; cases e
  · rw [del_ne z] at e; exact e
theorem del_new {H : Hp} {p q : Addr} {o : HO} (hq : H q = none) : Same (del H p) (del (upd H q o) p) := fun b u e => by
  by_cases z : b = p
  · subst z; rw [del_same] at e; cases e
  · rw [del_ne z] at e ⊢
    rw [upd_ne (ne_of_none e hq)]; exact e
theorem btw_of {lo hi i : Int} (a : lo ≤ i) (b : i ≤ hi) : isBtw lo hi (.int i) = true := by
  show (decide (lo ≤ i) && decide (i ≤ hi)) = true
  rw [decide_eq_true a, decide_eq_true b]; rfl
theorem RpA.ints {H : Hp} {h : Addr} : ∀ ns : List Int, RpA H h (ns.map V.int) (ns.map D.int)
  | [] => .nil
  | n :: r => .cons (.int n) (RpA.ints r)
theorem RpA.rep {H : Hp} {h : Addr} {v : V} {d : D} (r : Rp H h v d) : ∀ n : Nat, RpA H h (List.replicate n [v]).flatten (List.replicate n d)
  | 0 => .nil
  | n + 1 => by
    rw [List.replicate_succ, List.replicate_succ, List.flatten_cons]
    exact .cons r (RpA.rep r n)
theorem tyes {σ : St} {H : Hp} {A B : Hp → Prop} (h : A H) : tYes σ H (fun b H3 => if b = true then A H3 else B H3) := by
  unfold tYes
  show if true = true then A H else B H
  rw [if_pos rfl]
  exact h
end Hc


set_option Elab.async false
set_option linter.all false
set_option maxRecDepth 100000
set_option maxHeartbeats 4000000
set_option autoImplicit false
namespace Hc
open PySem L2
section
variable {P : Program} {w : World} {K : PySem.W.Frag} {mg : Str → Option Value} {base : Heap}
def spHand (K : PySem.W.Frag) : Sp := fun vs H Q _ => ∃ (a : Addr) (ns : List Int), vs = [.ref a] ∧ SqL K H a (ns.map V.int) ∧ ns.length ≤ 63 ∧
  ∀ h c H', Same H H' → HandAt H' h c → Q (.ref h) H'
theorem cutV_ints (ns : List Int) (lo hi : Option Int) : ∃ ms : List Int, cutV (ns.map V.int) lo hi = ms.map V.int ∧ ms.length ≤ ns.length := by
  refine ⟨(ns.drop (HT.sIx ns.length 0 lo)).take (HT.sIx ns.length ns.length hi - HT.sIx ns.length 0 lo), ?_, ?_⟩
  · unfold cutV
    rw [List.length_map, List.map_take, List.map_drop]
  · rw [List.length_take, List.length_drop]; omega
theorem ok__law_hand (T : Tx K mg) : FnOk P w K mg base CX0 1 T._law_hand.f T._law_hand.fd ["_law_script"] (spHand K) := by
  refine T._law_hand.F.ok sc_law_hand (fun vs H Q E h => ?_) (fun cdv A outer s H vs Q E hr h => ?_)
  · obtain ⟨a, ns, rfl, _⟩ := h
    rfl
  · obtain ⟨a, ns, rfl, hS, hl, k⟩ := h
    refine ⟨_, (pss_cons (ps_setLc (i := 1) (own := [("_law_cell", 2)]) (g := (gName 2)) (tt := tYes) rfl sc_law_hand.nd rfl rfl (sw_true rfl rfl rfl (by decide +kernel)) (pi_list (pe_slice sl_list (pv 0) po_none (po_some pe_int))) (blkOk_by (own := [("_law_cell", 2)]) (N := ["_law_script", "_law_cells", "_law_cell"]) (sc := defScope s_law_hand) (by decide +kernel)) (fun _ _ _ _ _ => (pg_name (i := 2) sc_law_hand.nd rfl (Or.inl rfl))) (fun _ _ _ _ _ => pts_nil) (fun _ _ _ _ _ => (by exact (pe_callB call_abs (by rfl) T.n_abs (by decide +kernel) (pa_cons (pe_callTy call_int1 (by rfl) T.n_int (by decide +kernel) (pa_cons (pv 2) pa_nil)) pa_nil)))))
      (pss_one (ps_ret (pe_lst (pa_cons (pv 1) (pa_cons pe_int (pa_cons pe_int (pa_cons (pe_op op_add pe_int (pe_callB call_len_seq (by rfl) T.n_len (by decide +kernel) (pa_cons (pv 1) pa_nil))) (pa_cons pe_int pa_nil))))))))), ?_⟩
    obtain ⟨ms, em, lm⟩ := cutV_ints ns none (some 63)
    refine ⟨_, rfl, _, rfl, a, _, rfl, hS, fun p hp => ?_⟩
    rw [em]
    refine ⟨p, rfl, ⟨_, SqL.of upd_same⟩, fun D hD => ?_⟩
    have s1 : Same H (upd H p (.lst (ms.map V.int))) := same_upd hp
    have npD : p ≠ D := ne_of_none upd_same hD
    refine lc_list (K := K) (a := p) (xs := ms.map V.int) (fun i H' => ∃ ys : List Int, H' D = some (.lst (ys.map V.int)) ∧ ys.length = i ∧ H' p = some (.lst (ms.map V.int)) ∧ ∀ b o, H b = some o → H' b = some o)
      ⟨[], upd_same, rfl, by rw [upd_ne npD]; exact upd_same, fun b o q => by rw [upd_ne (ne_of_none (s1 _ _ q) hD)]; exact s1 _ _ q⟩ (fun i H' _ ⟨_, _, _, q, _⟩ => SqL.of q) ?_ ?_
    · rintro i x H' hx ⟨ys, hd, hy, hp', sm⟩
      have hi : i < (ms.map V.int).length := (List.getElem?_eq_some_iff.mp hx).1
      rw [List.length_map] at hi
      obtain ⟨z, rfl⟩ : ∃ z, x = V.int z := by
        rw [List.getElem?_map] at hx
        cases e : ms[i]? with
        | none => rw [e] at hx; cases hx
        | some z => rw [e] at hx; exact ⟨z, (Option.some.inj hx).symm⟩
      refine ⟨rfl, tyes ⟨_, rfl, .inl ⟨_, rfl, _, rfl, _, hd, ?_, ys ++ [if z < 0 then -z else z], ?_, ?_, ?_, ?_⟩⟩⟩
      · rw [List.length_map]; exact line_lt (by omega)
      · rw [upd_same, List.map_append]; rfl
      · rw [List.length_append, hy]; rfl
      · rw [upd_ne npD]; exact hp'
      · intro b o q
        have := s1 _ _ q
        rw [upd_ne (ne_of_none this hD)]
        exact sm _ _ q
    · rintro H' ⟨ys, hd, hy, hp', sm⟩
      refine ⟨_, rfl, _, rfl, _, _, rfl, .inl (SqL.of hd), _, _, rfl, rfl, by show 5 ≤ sizeLine; decide, fun hh nh => ?_⟩
      have nD : D ≠ hh := ne_of_none hd nh
      exact k hh D _ (fun b o q => by rw [upd_ne (ne_of_none (sm _ _ q) nh)]; exact sm _ _ q) ⟨ys, 0, 0, _, 0, upd_same, by rw [upd_ne nD]; exact hd, by decide, nD⟩
end
end Hc


set_option Elab.async false
set_option linter.all false
set_option pp.maxSteps 600
set_option maxRecDepth 100000
set_option maxHeartbeats 4000000
set_option autoImplicit false
namespace Hc
open PySem L2
/-! ### sizes -/
def Bd (x : Int) : Prop := x.natAbs < 2 ^ 120
def MdOk (m : Int) : Prop := 1 ≤ m ∧ m ≤ 1000000000000000000000000000000
theorem Bd.of {x : Int} (h1 : -1329227995784915872903807060280344576 < x) (h2 : x < 1329227995784915872903807060280344576) : Bd x := by
  show x.natAbs < 1329227995784915872903807060280344576
  omega
theorem Bd.to {x : Int} (h : Bd x) : -1329227995784915872903807060280344576 < x ∧ x < 1329227995784915872903807060280344576 := by
  have h' : x.natAbs < 1329227995784915872903807060280344576 := h
  omega
theorem Bd.mul {x y : Int} (hx : Bd x) (hy : Bd y) : CMulX x y := by
  have h1 := PyProof.Rows.intBits_le (a := x) (k := 120) hx
  have h2 := PyProof.Rows.intBits_le (a := y) (k := 120) hy
  show (Builtin.Int.intBits x : Int) + (Builtin.Int.intBits y : Int) ≤ 134217728
  omega
theorem fmod_in {m : Int} (hm : MdOk m) (x : Int) : 0 ≤ x.fmod m ∧ x.fmod m < m := mod_range x (by have := hm.1; omega)
theorem fmod_bd {m : Int} (hm : MdOk m) (x : Int) : Bd (x.fmod m) := by
  obtain ⟨h1, h2⟩ := fmod_in hm x
  have := hm.2
  exact .of (by omega) (by omega)
theorem MdOk.pos {m : Int} (hm : MdOk m) : 0 < m := by have := hm.1; omega
theorem MdOk.ne {m : Int} (hm : MdOk m) : m ≠ 0 := by have := hm.1; omega
abbrev rTupOf (K : PySem.W.Frag) : List V → Hp → VK → Prop := fun xs H Q => ∃ p ys, xs = [V.ref p] ∧ ((SqL K H p ys ∧ ∀ l, H l = none → Q (.ref l) (upd H l (.tup ys))) ∨ (SqT K H p ys ∧ Q (.ref p) H))
/-! ### matrices in the heap -/
def M3.at (x : M3) : Nat → Nat → Int
  | 0, 0 => x.a
  | 0, 1 => x.b
  | 0, 2 => x.c
  | 1, 0 => x.d
  | 1, 1 => x.e
  | 1, 2 => x.f
  | 2, 0 => x.g
  | 2, 1 => x.h
  | 2, 2 => x.i
  | _, _ => 0
def B3 (x : M3) : Prop := ∀ i j, i < 3 → j < 3 → Bd (x.at i j)
theorem lt3 {i : Nat} (h : i < 3) : i = 0 ∨ i = 1 ∨ i = 2 := by omega
theorem mulm_at (m : Int) (x y : M3) {i j : Nat} (hi : i < 3) (hj : j < 3) : (mulm m x y).at i j = (x.at i 0 * y.at 0 j + (x.at i 1 * y.at 1 j + (x.at i 2 * y.at 2 j + 0))).fmod m := by
  rcases lt3 hi with rfl | rfl | rfl <;> rcases lt3 hj with rfl | rfl | rfl <;> simp only [mulm, mul3, M3.at, Int.add_zero, Int.add_assoc]
theorem mulm_bd {m : Int} (hm : MdOk m) (x y : M3) : B3 (mulm m x y) := fun i j hi hj => by
  rw [mulm_at m x y hi hj]; exact fmod_bd hm _
theorem sqT_mono {K : PySem.W.Frag} {H H' : Hp} {a : Addr} {xs : List V} (h : SqT K H a xs) (s : Same H H') : SqT K H' a xs := by
  rcases h with h | h
  · rcases h with h | ⟨o, h⟩
    · exact .inl (.inl (s _ _ h))
    · exact .inl (.inr ⟨o, s _ _ h⟩)
  · exact .inr h
def r3 (f : Nat → Int) : List V := [.int (f 0), .int (f 1), .int (f 2)]
def MatAt (K : PySem.W.Frag) (H : Hp) (t : Addr) (x : M3) : Prop := ∃ ps : Nat → Addr, SqT K H t [.ref (ps 0), .ref (ps 1), .ref (ps 2)] ∧ ∀ i, i < 3 → SqT K H (ps i) (r3 (x.at i))
theorem MatAt.mono {K : PySem.W.Frag} {H H' : Hp} {t : Addr} {x : M3} (h : MatAt K H t x) (s : Same H H') : MatAt K H' t x := by
  obtain ⟨ps, h1, h2⟩ := h
  exact ⟨ps, sqT_mono h1 s, fun i hi => sqT_mono (h2 i hi) s⟩
theorem get3 {f : Nat → V} {i : Nat} {x : V} (h : [f 0, f 1, f 2][i]? = some x) : i < 3 ∧ x = f i := by
  have hi : i < 3 := by
    have := (List.getElem?_eq_some_iff.mp h).1
    simpa using this
  rcases lt3 hi with rfl | rfl | rfl <;> exact ⟨hi, (Option.some.inj h).symm⟩
theorem same_putX {H H4 : Hp} {D : Addr} {o : HO} (s : Same H H4) (hD : H D = none) : Same H (upd H4 D o) := fun b u z => by
  rw [upd_ne (ne_of_none z hD)]
  exact s _ _ z
def rg (n : Nat) (f : Nat → V) : List V := (List.range n).map f
theorem rg_succ (n : Nat) (f : Nat → V) : rg n f ++ [f n] = rg (n + 1) f := by unfold rg; rw [List.range_succ, List.map_append]; rfl
theorem rg_len (n : Nat) (f : Nat → V) : (rg n f).length = n := by unfold rg; rw [List.length_map, List.length_range]
theorem rg_lt {n : Nat} (h : n ≤ 1000) (f : Nat → V) : (rg n f).length < sizeLine := by rw [rg_len]; exact line_lt (by omega)
section
variable {P : Program} {w : World} {K : PySem.W.Frag} {mg : Str → Option Value} {base : Heap}
def spTM (K : PySem.W.Frag) : Sp := fun vs H Q _ => ∃ (s t : Addr) (m : Int) (x y : M3), vs = [.ref s, .ref t, .int m] ∧ MatAt K H s x ∧ MatAt K H t y ∧ B3 x ∧ B3 y ∧ MdOk m ∧
  ∀ p H', Same H H' → MatAt K H' p (mulm m x y) → Q (.ref p) H'
theorem ok_times_matrix (T : Tx K mg) : FnOk P w K mg base CX0 1 T.times_matrix.f T.times_matrix.fd ["one", "other", "modulus"] (spTM K) := by
  refine T.times_matrix.F.ok sc_times_matrix (fun vs H Q E h => ?_) (fun cdv A outer s H vs Q E hr h => ?_)
  · obtain ⟨s, t, m, x, y, rfl, _⟩ := h
    rfl
  · obtain ⟨s, t, m, x, y, rfl, hx, hy, bx, b_y, hm, k⟩ := h
    refine ⟨_, (pss_cons (ps_set (i := 3) sc_times_matrix.nd rfl (Or.inr rfl) (pe_listZS rfl (by rfl) T.n_list (by rfl) T.n_zip (pv 1)))
      (pss_one (ps_ret (pe_callTy call_tuple_of (by rfl) T.n_tuple (by decide +kernel) (pa_cons (pe_lc (own := [("row", 4)]) (g := (gName 4)) (tt := tYes) (te := (tCB (rTupOf K) (tCons (tLc (iList K (tVar 3)) (gName 5) tYes (tOp (rI (fun _ j => j ≠ 0) fun i j => .int (i.fmod j)) (tCB (rSum K) (tCons (tLc (RZ.iZipA K (tCons (tVar 4) (tCons (tVar 5) tNil))) (gTup K 2 (gCons (gName 6) (gCons (gName 7) gNil))) tYes (tOp (rI CMulX fun i j => .int (i * j)) (tVar 6) (tVar 7)) (([("left", 6), ("right", 7)] : List (Str × Nat)).map (·.2))) tNil)) (tVar 2)) (([("column", 5)] : List (Str × Nat)).map (·.2))) tNil))) rfl sc_times_matrix.nd (pi_tup (pv 0)) (blkOk_by (own := [("row", 4)]) (N := ["one", "other", "modulus", "columns", "row", "column", "left", "right"]) (sc := defScope s_times_matrix) (by decide +kernel)) (fun _ _ _ _ _ => (pg_name (i := 4) sc_times_matrix.nd rfl (Or.inr rfl))) (fun _ _ _ _ _ => pts_nil) (fun _ _ _ _ _ => (by exact (pe_callTy call_tuple_of (by rfl) T.n_tuple (by decide +kernel) (pa_cons (pe_lc (own := [("column", 5)]) (g := (gName 5)) (tt := tYes) rfl sc_times_matrix.nd (pi_list (pv 3)) (blkOk_rl (own := [("column", 5)]) (N := ["one", "other", "modulus", "columns", "row", "column", "left", "right"]) (by decide +kernel)) (fun _ _ _ _ _ => (pg_name (i := 5) sc_times_matrix.nd rfl (Or.inl rfl))) (fun _ _ _ _ _ => pts_nil) (fun _ _ _ _ _ => (by exact (pe_op op_modN (pe_callB (cr_sum rfl) (by rfl) T.n_sum (by decide +kernel) (pa_cons (pe_lc (own := [("left", 6), ("right", 7)]) (g := (gTup K 2 (gCons (gName 6) (gCons (gName 7) gNil)))) (tt := tYes) rfl sc_times_matrix.nd (RZ.pi_zipA (by rfl) T.n_zip (pa_cons (pv 4) (pa_cons (pv 5) pa_nil))) (blkOk_rl (own := [("left", 6), ("right", 7)]) (N := ["one", "other", "modulus", "columns", "row", "column", "left", "right"]) (by decide +kernel)) (fun _ _ _ _ _ => (pg_tup (by rfl) (pgs_cons (pg_name (i := 6) sc_times_matrix.nd rfl (Or.inl rfl)) (pgs_cons (pg_name (i := 7) sc_times_matrix.nd rfl (Or.inl rfl)) pgs_nil)))) (fun _ _ _ _ _ => pts_nil) (fun _ _ _ _ _ => (by exact (pe_op op_mulX (pv 6) (pv 7))))) pa_nil)) (pv 2))))) pa_nil))))) pa_nil))))), ?_⟩
    obtain ⟨ps, x1, x2⟩ := id hx
    obtain ⟨qs, y1, y2⟩ := id hy
    refine ⟨_, rfl, t, qs 0, qs 1, qs 2, _, _, _, _, _, _, _, _, _, rfl, y1, y2 0 (by decide), y2 1 (by decide), y2 2 (by decide), fun p q r l hp hq hr' hl d1 d2 d3 d4 d5 d6 => ?_⟩
    have sH : Same H (upd (upd (upd (upd H p (.tup [.int (y.at 0 0), .int (y.at 1 0), .int (y.at 2 0)])) q (.tup [.int (y.at 0 1), .int (y.at 1 1), .int (y.at 2 1)])) r (.tup [.int (y.at 0 2), .int (y.at 1 2), .int (y.at 2 2)])) l (.lst [.ref p, .ref q, .ref r])) :=
      same_putX (same_putX (same_putX (same_upd hp) hq) hr') hl
    obtain ⟨cs, ecs⟩ : ∃ cs : Nat → Addr, [V.ref p, V.ref q, V.ref r] = [.ref (cs 0), .ref (cs 1), .ref (cs 2)] ∧ cs 0 = p ∧ cs 1 = q ∧ cs 2 = r := ⟨fun i => if i = 0 then p else if i = 1 then q else r, rfl, rfl, rfl, rfl⟩
    obtain ⟨ecs, c0, c1, c2⟩ := ecs
    rw [ecs] at sH ⊢
    have hcl : ∀ j, j < 3 → (upd (upd (upd (upd H p (.tup [.int (y.at 0 0), .int (y.at 1 0), .int (y.at 2 0)])) q (.tup [.int (y.at 0 1), .int (y.at 1 1), .int (y.at 2 1)])) r (.tup [.int (y.at 0 2), .int (y.at 1 2), .int (y.at 2 2)])) l (.lst [.ref (cs 0), .ref (cs 1), .ref (cs 2)])) (cs j) = some (.tup (r3 fun u => y.at u j)) := by
      intro j hj
      rcases lt3 hj with rfl | rfl | rfl
      · rw [c0, upd_ne d4.symm, upd_ne d2.symm, upd_ne d1.symm, upd_same]; rfl
      · rw [c1, upd_ne d5.symm, upd_ne d3.symm, upd_same]; rfl
      · rw [c2, upd_ne d6.symm, upd_same]; rfl
    have hll := @upd_same (upd (upd (upd H p (.tup [.int (y.at 0 0), .int (y.at 1 0), .int (y.at 2 0)])) q (.tup [.int (y.at 0 1), .int (y.at 1 1), .int (y.at 2 1)])) r (.tup [.int (y.at 0 2), .int (y.at 1 2), .int (y.at 2 2)])) l (.lst [.ref (cs 0), .ref (cs 1), .ref (cs 2)])
    generalize (upd (upd (upd (upd H p (.tup [.int (y.at 0 0), .int (y.at 1 0), .int (y.at 2 0)])) q (.tup [.int (y.at 0 1), .int (y.at 1 1), .int (y.at 2 1)])) r (.tup [.int (y.at 0 2), .int (y.at 1 2), .int (y.at 2 2)])) l (.lst [.ref (cs 0), .ref (cs 1), .ref (cs 2)])) = H1 at sH hcl hll ⊢
    refine ⟨_, rfl, s, rfl, ⟨_, sqT_mono x1 sH⟩, fun D hD => ?_⟩
    refine lc_tup (K := K) (a := s) (xs := [.ref (ps 0), .ref (ps 1), .ref (ps 2)]) (fun i H' => Same H1 H' ∧ ∃ rs : Nat → Addr, H' D = some (.lst (rg i fun j => V.ref (rs j))) ∧ ∀ j, j < i → H' (rs j) = some (.tup (r3 ((mulm m x y).at j)))) ⟨same_upd hD, fun _ => 0, upd_same, fun j hj => absurd hj (Nat.not_lt_zero j)⟩ (fun i H' _ ⟨z, _⟩ => sqT_mono x1 (sH.trans z)) ?_ ?_
    · rintro i v H2 hv ⟨s2, rs, eD, ers⟩
      obtain ⟨hi, rfl⟩ := get3 (f := fun i => V.ref (ps i)) hv
      refine ⟨rfl, tyes ⟨_, rfl, l, rfl, ⟨_, SqL.of (s2 _ _ hll)⟩, fun D2 hD2 => ?_⟩⟩
      refine lc_list (K := K) (a := l) (xs := [.ref (cs 0), .ref (cs 1), .ref (cs 2)]) (fun j H' => Same H2 H' ∧ H' D2 = some (.lst (rg j fun u => V.int ((mulm m x y).at i u)))) ⟨same_upd hD2, upd_same⟩ (fun j H' _ ⟨z, _⟩ => SqL.of (z _ _ (s2 _ _ hll))) ?_ ?_
      · rintro j v H3 hv ⟨s3, eD2⟩
        obtain ⟨hj, rfl⟩ := get3 (f := fun i => V.ref (cs i)) hv
        have tx : SqT K H3 (ps i) (r3 (x.at i)) := sqT_mono (x2 i hi) ((sH.trans s2).trans s3)
        have ty : SqT K H3 (cs j) (r3 fun u => y.at u j) := SqT.of (s3 _ _ (s2 _ _ (hcl j hj)))
        refine ⟨rfl, tyes ⟨_, rfl, _, rfl, ps i, cs j, _, _, rfl, .inr ⟨tx, ty, fun D3 hD3 => ?_⟩⟩⟩
        refine lc_zipT (K := K) (a := ps i) (b := cs j) (xs := r3 (x.at i)) (ys := r3 fun u => y.at u j) (fun k H' => Same H3 H' ∧ H' D3 = some (.lst (rg k fun u => V.int (x.at i u * y.at u j)))) ⟨same_upd hD3, upd_same⟩ (fun k H' ⟨z, _⟩ => ⟨sqT_mono tx z, sqT_mono ty z⟩) ?_ ?_
        · rintro k v1 v2 T H4 hv1 hv2 ⟨s4, eD3⟩ hT
          obtain ⟨hk, rfl⟩ := get3 (f := fun u => V.int (x.at i u)) hv1
          obtain ⟨_, rfl⟩ := get3 (f := fun u => V.int (y.at u j)) hv2
          have nT : D3 ≠ T := ne_of_none eD3 hT
          refine ⟨T, _, rfl, SqT.of upd_same, rfl, _, _, rfl, _, _, rfl, rfl, rfl, tyes ⟨_, rfl, _, rfl, _, _, rfl, rfl, (bx i k hi hk).mul (b_y k j hk hj), _, (upd_ne nT).trans eD3, rg_lt (by omega) _, same_putX (s4.trans (same_upd hT)) hD3, ?_⟩⟩
          rw [upd_same, rg_succ]
        · rintro H4 ⟨s4, eD3⟩
          refine ⟨D3, (List.range 3).map fun u => x.at i u * y.at u j, rfl, SqL.of eD3, _, rfl, _, _, rfl, rfl, hm.ne, _, s4 _ _ eD2, rg_lt (by omega) _, same_putX (s3.trans s4) hD2, ?_⟩
          rw [upd_same, ← rg_succ, mulm_at m x y hi hj]
          rfl
      · rintro H3 ⟨s3, eD2⟩
        refine ⟨D2, _, rfl, .inl ⟨SqL.of eD2, fun T hT => ?_⟩⟩
        have nT : D ≠ T := ne_of_none (s3 _ _ eD) hT
        refine ⟨_, (upd_ne nT).trans (s3 _ _ eD), rg_lt (by omega) _, same_putX ((s2.trans s3).trans (same_upd hT)) hD, fun j => if j = i then T else rs j, ?_, fun j hj => ?_⟩
        · rw [upd_same, ← rg_succ]
          dsimp only
          rw [if_pos rfl]
          have e : rg i (fun j => V.ref (if j = i then T else rs j)) = rg i (fun j => V.ref (rs j)) := by
            unfold rg
            refine List.map_congr_left fun j hj => ?_
            rw [if_neg (Nat.ne_of_lt (List.mem_range.mp hj))]
          rw [e]
        · dsimp only
          by_cases e : j = i
          · subst e
            rw [if_pos rfl, upd_ne (Ne.symm nT), upd_same]
            rfl
          · rw [if_neg e]
            have e2 := ers j (by omega)
            have nj : rs j ≠ D := fun z => by rw [z, eD] at e2; cases e2
            rw [upd_ne nj, upd_ne (ne_of_none (s3 _ _ e2) hT)]
            exact s3 _ _ e2
    · rintro H2 ⟨s2, rs, eD, ers⟩
      refine ⟨D, _, rfl, .inl ⟨SqL.of eD, fun T hT => ?_⟩⟩
      exact k T _ ((sH.trans s2).trans (same_upd hT)) ⟨rs, SqT.of upd_same, fun j hj => SqT.of (same_upd hT _ _ (ers j hj))⟩
end
end Hc


set_option Elab.async false
set_option linter.all false
set_option pp.maxSteps 900
set_option maxRecDepth 100000
set_option maxHeartbeats 4000000
set_option autoImplicit false
namespace Hc
open PySem L2
theorem matAt_of {K : PySem.W.Frag} {H : Hp} {t p q r : Addr} {x : M3} (h : SqT K H t [.ref p, .ref q, .ref r]) (h0 : SqT K H p (r3 (x.at 0))) (h1 : SqT K H q (r3 (x.at 1))) (h2 : SqT K H r (r3 (x.at 2))) : MatAt K H t x := by
  refine ⟨fun i => if i = 0 then p else if i = 1 then q else r, h, fun i hi => ?_⟩
  rcases lt3 hi with rfl | rfl | rfl
  · exact h0
  · exact h1
  · exact h2
theorem one_bd : B3 one3 := fun i j hi hj => by
  rcases lt3 hi with rfl | rfl | rfl <;> rcases lt3 hj with rfl | rfl | rfl <;> exact .of (by decide) (by decide)
theorem step_bd : B3 step3 := fun i j hi hj => by
  rcases lt3 hi with rfl | rfl | rfl <;> rcases lt3 hj with rfl | rfl | rfl <;> exact .of (by decide) (by decide)
theorem half (n : Nat) : (n : Int).fdiv 2 = ((n / 2 : Nat) : Int) := by
  rw [Int.fdiv_eq_ediv_of_nonneg _ (by decide)]; rfl
theorem get3i {f : Nat → V} {i : Nat} (h : i < 3) : [f 0, f 1, f 2][i]? = some (f i) := by
  rcases lt3 h with rfl | rfl | rfl <;> rfl
section
variable {P : Program} {w : World} {K : PySem.W.Frag} {mg : Str → Option Value} {base : Heap}
def spPow (K : PySem.W.Frag) : Sp := fun vs H Q _ => ∃ (n : Nat) (m : Int), vs = [.int (n : Nat), .int m] ∧ MdOk m ∧
  ∀ p H' x, Same H H' → MatAt K H' p x → B3 x → CgM m x (Pw n) → Q (.ref p) H'
theorem ok_step_power (T : Tx K mg) : FnOk P w K mg base CX0 2 T.step_power.f T.step_power.fd ["power", "modulus"] (spPow K) := by
  refine T.step_power.F.ok sc_step_power (fun vs H Q E h => ?_) (fun cdv A outer s H vs Q E hr h => ?_)
  · obtain ⟨n, m, rfl, _⟩ := h
    rfl
  · obtain ⟨n, m, rfl, hm, k⟩ := h
    refine ⟨_, (pss_cons (ps_set (i := 2) sc_step_power.nd rfl (Or.inl rfl) (pe_tup (pa_cons (pe_tup (pa_cons pe_int (pa_cons pe_int (pa_cons pe_int pa_nil)))) (pa_cons (pe_tup (pa_cons pe_int (pa_cons pe_int (pa_cons pe_int pa_nil)))) (pa_cons (pe_tup (pa_cons pe_int (pa_cons pe_int (pa_cons pe_int pa_nil)))) pa_nil)))))
      (pss_cons (ps_set (i := 3) sc_step_power.nd rfl (Or.inl rfl) (pe_glob (v := .ref T.c_STEP.choose) rfl T.c_STEP.choose_spec.1 rfl))
      (pss_cons (ps_while PassesOwn.never (pt_truth (pv 0) (by intro _; rfl))
      (pss_cons (ps_if (pt_truth (pe_op op_odd (pv 0) pe_int) (by intro _; rfl))
      (pss_one (ps_set (i := 2) sc_step_power.nd rfl (Or.inl rfl) (pe_call (ok_times_matrix T) (hr.mono (by decide)) rfl T.times_matrix.g T.times_matrix.F.kp T.times_matrix.b .nil pass0 (pa_cons (pv 2) (pa_cons (pv 3) (pa_cons (pv 1) pa_nil))))))
      pss_nil)
      (pss_cons (ps_set (i := 3) sc_step_power.nd rfl (Or.inl rfl) (pe_call (ok_times_matrix T) (hr.mono (by decide)) rfl T.times_matrix.g T.times_matrix.F.kp T.times_matrix.b .nil pass0 (pa_cons (pv 3) (pa_cons (pv 3) (pa_cons (pv 1) pa_nil)))))
      (pss_one (ps_set (i := 0) sc_step_power.nd rfl (Or.inl rfl) (pe_op op_fdivN (pv 0) pe_int))))))
      (pss_one (ps_ret (pv 2)))))), ?_⟩
    refine ⟨by show 3 ≤ sizeLine; decide, fun p1 h1 => ⟨by show 3 ≤ sizeLine; decide, fun p2 h2 => ⟨by show 3 ≤ sizeLine; decide, fun p3 h3 => ⟨by show 3 ≤ sizeLine; decide, fun p4 h4 => ?_⟩⟩⟩⟩
    have s1 : Same H (upd H p1 (.tup [.int 1, .int 0, .int 0])) := same_upd h1
    have s2 := same_upd (o := .tup [V.int 0, .int 1, .int 0]) h2
    have s3 := same_upd (o := .tup [V.int 0, .int 0, .int 1]) h3
    have s4 := same_upd (o := .tup [V.ref p1, .ref p2, .ref p3]) h4
    have f1 : MatAt K _ p4 one3 := matAt_of (SqT.of upd_same) (SqT.of (s4 _ _ (s3 _ _ (s2 _ _ upd_same)))) (SqT.of (s4 _ _ (s3 _ _ upd_same))) (SqT.of (s4 _ _ upd_same))
    obtain ⟨q1, q2, q3, cs⟩ := T.c_STEP.choose_spec.2
    have sH := ((s1.trans s2).trans s3).trans s4
    generalize upd _ p4 (HO.tup [V.ref p1, .ref p2, .ref p3]) = H1 at f1 sH ⊢
    have f2 : MatAt K H1 T.c_STEP.choose step3 := matAt_of (cs H1).1 (cs H1).2.1 (cs H1).2.2.1 (cs H1).2.2.2
    refine ⟨fun k σ' H' => ∃ (f q : Addr) (x y : M3) (a b : Nat), σ' = [some (.int (k : Nat)), some (.int m), some (.ref f), some (.ref q)] ∧ Same H H' ∧ MatAt K H' f x ∧ MatAt K H' q y ∧ B3 x ∧ B3 y ∧ CgM m x (Pw a) ∧ CgM m y (Pw b) ∧ k * b + a = n,
      ⟨n, p4, _, one3, step3, 0, 1, rfl, sH, f1, f2, one_bd, step_bd, .rfl', .rfl', by omega⟩, ?_⟩
    rintro k' σ' H' ⟨f, q, x, y, a, b, rfl, sm, mx, my, bx, b_y, cx, cy, e⟩
    refine ⟨_, rfl, _, rfl, ?_⟩
    by_cases z : k' = 0
    · subst z
      have e' : a = n := by omega
      subst e'
      exact iteF ⟨_, rfl, k f H' x sm mx bx cx⟩
    · have z' : ((k' : Int) != 0) = true := by rw [bne_iff_ne]; omega
      rw [z']
      refine iteT ⟨fun σ' H' => ∃ m', m' < k' ∧ ∃ (f q : Addr) (x y : M3) (a b : Nat), σ' = [some (.int (m' : Nat)), some (.int m), some (.ref f), some (.ref q)] ∧ Same H H' ∧ MatAt K H' f x ∧ MatAt K H' q y ∧ B3 x ∧ B3 y ∧ CgM m x (Pw a) ∧ CgM m y (Pw b) ∧ m' * b + a = n, fun σ' H' h => h, ?_⟩
      have hk : k' / 2 < k' := by omega
      have two : k' = 2 * (k' / 2) + k' % 2 := by omega
      refine ⟨_, rfl, k', rfl, rfl, _, rfl, ?_⟩
      by_cases o : k' % 2 = 0
      · rw [o]
        refine iteF ⟨_, rfl, _, rfl, _, rfl, q, q, m, y, y, rfl, my, my, b_y, b_y, hm, fun p2 H2 s2 m2 => ?_⟩
        refine ⟨_, rfl, _, _, rfl, rfl, ⟨by decide, by decide⟩, k' / 2, hk, f, p2, x, mulm m y y, a, b + b, ?_, sm.trans s2, mx.mono s2, m2, bx, mulm_bd hm y y, cx, cy.mulP hm.pos cy, ?_⟩
        · dsimp only; rw [half]; rfl
        · rw [Nat.mul_add]
          have : k' * b = 2 * (k' / 2) * b := by rw [← show 2 * (k' / 2) + 0 = 2 * (k' / 2) from rfl, ← o, ← two]
          rw [Nat.mul_assoc, Nat.two_mul] at this
          omega
      · have o' : k' % 2 = 1 := by omega
        rw [o']
        refine iteT ⟨_, rfl, _, rfl, _, rfl, f, q, m, x, y, rfl, mx, my, bx, b_y, hm, fun p1 H1' s1' m1 => ?_⟩
        refine ⟨_, rfl, _, rfl, _, rfl, q, q, m, y, y, rfl, my.mono s1', my.mono s1', b_y, b_y, hm, fun p2 H2 s2 m2 => ?_⟩
        refine ⟨_, rfl, _, _, rfl, rfl, ⟨by decide, by decide⟩, k' / 2, hk, p1, p2, mulm m x y, mulm m y y, a + b, b + b, ?_, (sm.trans s1').trans s2, m1.mono s2, m2, mulm_bd hm x y, mulm_bd hm y y, cx.mulP hm.pos cy, cy.mulP hm.pos cy, ?_⟩
        · dsimp only; rw [half]; rfl
        · rw [Nat.mul_add]
          have : k' * b = (2 * (k' / 2) + 1) * b := by rw [← o', ← two]
          rw [Nat.add_mul, Nat.mul_assoc, Nat.two_mul, Nat.one_mul] at this
          omega
def spLines : Sp := fun vs H Q _ => ∃ (n : Nat) (m : Int), vs = [.int (n : Nat), .int m] ∧ MdOk m ∧ 1 ≤ n ∧ n ≤ 1000000000000000000000000000000 ∧ ∀ H', Same H H' → Q (.int (LL n m)) H'
theorem ok_line_lots (T : Tx K mg) : FnOk P w K mg base CX0 5 T.line_lots.f T.line_lots.fd ["n", "modulus"] spLines := by
  refine T.line_lots.F.ok sc_line_lots (fun vs H Q E h => ?_) (fun cdv A outer s H vs Q E hr h => ?_)
  · obtain ⟨n, m, rfl, _⟩ := h
    rfl
  · obtain ⟨n, m, rfl, hm, h1, h2, k⟩ := h
    refine ⟨_, (pss_cons (ps_expr (pe_call (ok_check_number T) (hr.mono (by decide)) rfl T.check_number.g T.check_number.F.kp T.check_number.b .nil passL (pa_cons (pe_glob (v := .int 1) rfl T.c_LEAST_LINE.choose_spec ⟨_, rfl⟩) (pa_cons (pe_glob (v := .int 1000000000000000000000000000000) rfl T.c_GREATEST.choose_spec ⟨_, rfl⟩) (pa_cons (pv 0) pa_nil)))))
      (pss_cons (ps_expr (pe_call (ok_check_number T) (hr.mono (by decide)) rfl T.check_number.g T.check_number.F.kp T.check_number.b .nil passL (pa_cons pe_int (pa_cons (pe_glob (v := .int 1000000000000000000000000000000) rfl T.c_GREATEST.choose_spec ⟨_, rfl⟩) (pa_cons (pv 1) pa_nil)))))
      (pss_one (ps_ret (pe_op op_modN (pe_op op_mul pe_int (pe_callB (cr_sumT rfl) (by rfl) T.n_sum (by decide +kernel) (pa_cons (pe_ix ix_tup (pe_call (ok_step_power T) (hr.mono (by decide)) rfl T.step_power.g T.step_power.F.kp T.step_power.b .nil pass0 (pa_cons (pe_op op_sub (pv 0) pe_int) (pa_cons (pv 1) pa_nil))) pe_int (fun _ _ => rfl)) pa_nil))) (pv 1)))))), ?_⟩
    refine ⟨_, rfl, 1, _, (n : Nat), rfl, by omega, by omega, ?_⟩
    refine ⟨_, rfl, 1, _, m, rfl, hm.1, hm.2, ?_⟩
    obtain ⟨n, rfl⟩ : ∃ k, n = k + 1 := ⟨n - 1, by omega⟩
    refine ⟨_, rfl, _, _, rfl, rfl, _, rfl, n, m, by dsimp only; rw [show ((n + 1 : Nat) : Int) - 1 = (n : Nat) by omega]; rfl, hm, fun p H' x sm mx bx cx => ?_⟩
    obtain ⟨ps, x1, x2⟩ := mx
    refine ⟨p, _, 0, _, rfl, rfl, x1, atI_nat (j := 0) rfl, ps 0, [x.a, x.b, x.c], rfl, x2 0 (by decide), _, _, rfl, rfl, .inl ⟨by decide, by decide⟩, _, rfl, _, _, rfl, rfl, hm.ne, ?_⟩
    have e : (2 * [x.a, x.b, x.c].sum).fmod m = LL (n + 1) m := by
      rw [← line_of hm.pos cx]
      show (2 * (x.a + (x.b + (x.c + 0)))).fmod m = _
      rw [Int.add_zero, ← Int.add_assoc]
    show Q (.int ((2 * [x.a, x.b, x.c].sum).fmod m)) H'
    rw [e]
    exact k H' sm
def spRings : Sp := fun vs H Q _ => ∃ (n : Nat) (m : Int), vs = [.int (n : Nat), .int m] ∧ MdOk m ∧ 2 ≤ n ∧ n ≤ 1000000000000000000000000000000 ∧ ∀ H', Same H H' → Q (.int (RL n m)) H'
theorem ok_ring_lots (T : Tx K mg) : FnOk P w K mg base CX0 5 T.ring_lots.f T.ring_lots.fd ["n", "modulus"] spRings := by
  refine T.ring_lots.F.ok sc_ring_lots (fun vs H Q E h => ?_) (fun cdv A outer s H vs Q E hr h => ?_)
  · obtain ⟨n, m, rfl, _⟩ := h
    rfl
  · obtain ⟨n, m, rfl, hm, h1, h2, k⟩ := h
    refine ⟨_, (pss_cons (ps_expr (pe_call (ok_check_number T) (hr.mono (by decide)) rfl T.check_number.g T.check_number.F.kp T.check_number.b .nil passL (pa_cons (pe_glob (v := .int 2) rfl T.c_LEAST_RING.choose_spec ⟨_, rfl⟩) (pa_cons (pe_glob (v := .int 1000000000000000000000000000000) rfl T.c_GREATEST.choose_spec ⟨_, rfl⟩) (pa_cons (pv 0) pa_nil)))))
      (pss_cons (ps_expr (pe_call (ok_check_number T) (hr.mono (by decide)) rfl T.check_number.g T.check_number.F.kp T.check_number.b .nil passL (pa_cons pe_int (pa_cons (pe_glob (v := .int 1000000000000000000000000000000) rfl T.c_GREATEST.choose_spec ⟨_, rfl⟩) (pa_cons (pv 1) pa_nil)))))
      (pss_cons (ps_set (i := 2) sc_ring_lots.nd rfl (Or.inr rfl) (pe_call (ok_step_power T) (hr.mono (by decide)) rfl T.step_power.g T.step_power.F.kp T.step_power.b .nil pass0 (pa_cons (pv 0) (pa_cons (pv 1) pa_nil))))
      (pss_one (ps_ret (pe_op op_modN (pe_callB (cr_sum rfl) (by rfl) T.n_sum (by decide +kernel) (pa_cons (pe_lc (own := [("k", 3)]) (g := (gName 3)) (tt := tYes) (te := (tOp (rIxT K) (tOp (rIxT K) (tVar 2) (tVar 3)) (tVar 3))) rfl sc_ring_lots.nd (pi_range1 (by rfl) T.n_range (pa_cons (pe_callB call_len_seq (by rfl) T.n_len (by decide +kernel) (pa_cons (pv 2) pa_nil)) pa_nil)) (blkOk_by (own := [("k", 3)]) (N := ["n", "modulus", "found", "k"]) (sc := defScope s_ring_lots) (by decide +kernel)) (fun _ _ _ _ _ => (pg_name (i := 3) sc_ring_lots.nd rfl (Or.inl rfl))) (fun _ _ _ _ _ => pts_nil) (fun _ _ _ _ _ => (by exact (pe_ix ix_tup (pe_ix ix_tup (pv 2) (pv 3) (fun _ _ => rfl)) (pv 3) (fun _ _ => rfl))))) pa_nil)) (pv 1))))))), ?_⟩
    refine ⟨_, rfl, 2, _, (n : Nat), rfl, by omega, by omega, ?_⟩
    refine ⟨_, rfl, 1, _, m, rfl, hm.1, hm.2, ?_⟩
    refine ⟨_, rfl, _, rfl, n, m, rfl, hm, fun p H' x sm mx bx cx => ?_⟩
    obtain ⟨ps, x1, x2⟩ := mx
    refine ⟨_, rfl, p, _, rfl, .inr x1, (3 : Int), rfl, by omega, by omega, fun D hD => ?_⟩
    refine lc_range (lo := 0) (n := 3) (fun i H2 => Same H' H2 ∧ H2 D = some (.lst (rg i fun k => V.int (x.at k k)))) ⟨same_upd hD, upd_same⟩ ?_ ?_
    · rintro i H2 hi ⟨s2, eD⟩
      rw [Int.zero_add]
      refine ⟨rfl, tyes ⟨_, rfl, _, rfl, p, _, (i : Nat), _, rfl, rfl, sqT_mono x1 s2, atI_nat (get3i (f := fun i => V.ref (ps i)) hi), _, rfl, ps i, _, (i : Nat), _, rfl, rfl, sqT_mono (x2 i hi) s2, atI_nat (get3i (f := fun j => V.int (x.at i j)) hi), _, eD, rg_lt (by omega) _, same_putX s2 hD, ?_⟩⟩
      rw [upd_same, ← rg_succ]
    · rintro H2 ⟨s2, eD⟩
      refine ⟨D, [x.a, x.e, x.i], rfl, SqL.of eD, _, rfl, _, _, rfl, rfl, hm.ne, ?_⟩
      have e : [x.a, x.e, x.i].sum.fmod m = RL n m := by
        rw [← ring_of hm.pos cx]
        show (x.a + (x.e + (x.i + 0))).fmod m = _
        rw [Int.add_zero, ← Int.add_assoc]
      show Q (.int ([x.a, x.e, x.i].sum.fmod m)) H2
      rw [e]
      exact k H2 (sm.trans s2)
def spLeastL : Sp := fun vs H Q _ => ∃ (n : Nat), vs = [.int (n : Nat)] ∧ 1 ≤ n ∧ n ≤ 1000000000000000000000000000000 ∧ Q (.int (((n - 1) / 3 : Nat) : Int)) H
theorem ok_line_least (T : Tx K mg) : FnOk P w K mg base CX0 5 T.line_least.f T.line_least.fd ["n"] spLeastL := by
  refine T.line_least.F.ok sc_line_least (fun vs H Q E h => ?_) (fun cdv A outer s H vs Q E hr h => ?_)
  · obtain ⟨n, rfl, _⟩ := h
    rfl
  · obtain ⟨n, rfl, h1, h2, k⟩ := h
    refine ⟨_, (pss_cons (ps_expr (pe_call (ok_check_number T) (hr.mono (by decide)) rfl T.check_number.g T.check_number.F.kp T.check_number.b .nil passL (pa_cons (pe_glob (v := .int 1) rfl T.c_LEAST_LINE.choose_spec ⟨_, rfl⟩) (pa_cons (pe_glob (v := .int 1000000000000000000000000000000) rfl T.c_GREATEST.choose_spec ⟨_, rfl⟩) (pa_cons (pv 0) pa_nil)))))
      (pss_one (ps_ret (pe_op op_fdivN (pe_op op_sub (pv 0) pe_int) pe_int)))), ?_⟩
    refine ⟨_, rfl, 1, _, (n : Nat), rfl, by omega, by omega, ?_⟩
    refine ⟨_, rfl, _, _, rfl, rfl, _, _, rfl, rfl, ⟨by decide, by decide⟩, ?_⟩
    have e : ((n : Int) - 1).fdiv 3 = (((n - 1) / 3 : Nat) : Int) := by
      rw [Int.fdiv_eq_ediv_of_nonneg _ (by decide)]; omega
    show Q (.int (((n : Int) - 1).fdiv 3)) H
    rw [e]
    exact k
def spLeastR : Sp := fun vs H Q _ => ∃ (n : Nat), vs = [.int (n : Nat)] ∧ 2 ≤ n ∧ n ≤ 1000000000000000000000000000000 ∧ Q (.int (((n + 2) / 3 : Nat) : Int)) H
theorem ok_ring_least (T : Tx K mg) : FnOk P w K mg base CX0 5 T.ring_least.f T.ring_least.fd ["n"] spLeastR := by
  refine T.ring_least.F.ok sc_ring_least (fun vs H Q E h => ?_) (fun cdv A outer s H vs Q E hr h => ?_)
  · obtain ⟨n, rfl, _⟩ := h
    rfl
  · obtain ⟨n, rfl, h1, h2, k⟩ := h
    refine ⟨_, (pss_cons (ps_expr (pe_call (ok_check_number T) (hr.mono (by decide)) rfl T.check_number.g T.check_number.F.kp T.check_number.b .nil passL (pa_cons (pe_glob (v := .int 2) rfl T.c_LEAST_RING.choose_spec ⟨_, rfl⟩) (pa_cons (pe_glob (v := .int 1000000000000000000000000000000) rfl T.c_GREATEST.choose_spec ⟨_, rfl⟩) (pa_cons (pv 0) pa_nil)))))
      (pss_one (ps_ret (pe_op op_fdivN (pe_op op_add (pv 0) pe_int) pe_int)))), ?_⟩
    refine ⟨_, rfl, 2, _, (n : Nat), rfl, by omega, by omega, ?_⟩
    refine ⟨_, rfl, _, _, rfl, rfl, _, _, rfl, rfl, ⟨by decide, by decide⟩, ?_⟩
    have e : ((n : Int) + 2).fdiv 3 = (((n + 2) / 3 : Nat) : Int) := by
      rw [Int.fdiv_eq_ediv_of_nonneg _ (by decide)]; omega
    show Q (.int (((n : Int) + 2).fdiv 3)) H
    rw [e]
    exact k
end
end Hc


set_option Elab.async false
set_option linter.all false
set_option pp.maxSteps 900
set_option maxRecDepth 100000
set_option maxHeartbeats 4000000
set_option autoImplicit false
namespace Hc
open PySem L2
/-- a loop over reversed(a list) -/
theorem for_rev {K : PySem.W.Frag} {a : Addr} {xs : List V} {n : Nat} {g : TG} {tb : TS} {D : Ends} {σ : St} {H : Hp} (hn : xs.length = n) (Pv : Nat → St → Hp → Prop) (h0 : Pv 0 σ H) (hl : ∀ i σ H, i ≤ n → Pv i σ H → SqL K H a xs)
    (hs : ∀ i x σ H, i < n → xs[n - 1 - i]? = some x → Pv i σ H → g x σ H fun σ2 H2 => tb { D with nx := Pv (i + 1), ct := Pv (i + 1), bk := D.nx } σ2 H2) (hd : ∀ σ H, Pv n σ H → D.nx σ H) :
    ∃ W : Nat → Nat → St → Hp → Prop, (∃ m, W 0 m σ H) ∧ ∀ i m σ H, W i m σ H →
      ((Itv K a n).stop i H ∧ D.nx σ H) ∨ ((Itv K a n).go i H ∧ ∃ N : St → Hp → Prop, (∀ σ' H', N σ' H' → ∃ m', m' < m ∧ W (i + 1) m' σ' H') ∧ ∀ x H', (Itv K a n).yld i H x H' → g x σ H' fun σ2 H2 => tb { D with nx := N, ct := N, bk := D.nx } σ2 H2) := by
  refine ⟨fun i m σ H => m = n - i ∧ i ≤ n ∧ Pv i σ H, ⟨n, by simp, Nat.zero_le _, h0⟩, ?_⟩
  rintro i m σ H ⟨rfl, hi, p⟩
  have q := hl i σ H hi p
  by_cases hlt : i < n
  · have hj : n - 1 - i < xs.length := by omega
    refine .inr ⟨⟨hlt, xs, xs[n - 1 - i], q, by simp [hj]⟩, Pv (i + 1), fun σ' H' p' => ⟨n - (i + 1), by omega, rfl, hlt, p'⟩, fun x H' y => ?_⟩
    obtain ⟨e, y⟩ := y
    subst e
    exact hs i x σ _ hlt (y xs q) p
  · have e : i = n := by omega
    subst e
    exact .inl ⟨Nat.le_refl _, hd σ H p⟩
section
variable {P : Program} {w : World} {K : PySem.W.Frag} {mg : Str → Option Value} {base : Heap}
def spNum : Sp := fun vs H Q _ => ∃ (h c : Addr) (f : Nat), vs = [.ref h, .int (f : Nat)] ∧ HandAt H h c ∧ f ≤ 30 ∧ ∀ (n : Int) H', 0 ≤ n → n < 10 ^ f → HandAt H' h c → But h H H' → Q (.int n) H'
theorem ok__law_number (T : Tx K mg) : FnOk P w K mg base CX0 2 T._law_number.f T._law_number.fd ["_law_hand_here", "_law_figures"] spNum := by
  refine T._law_number.F.ok sc_law_number (fun vs H Q E h => ?_) (fun cdv A outer s H vs Q E hr h => ?_)
  · obtain ⟨h, c, f, rfl, _⟩ := h
    rfl
  · obtain ⟨h, c, f, rfl, hA, hf, k⟩ := h
    refine ⟨_, (pss_cons (ps_set (i := 2) sc_law_number.nd rfl (Or.inl rfl) pe_int)
      (pss_cons (ps_for PassesOwn.never rfl (pi_range1 (by rfl) T.n_range (pa_cons (pv 1) pa_nil)) (pg_name (i := 3) sc_law_number.nd rfl (Or.inl rfl))
      (pss_one (ps_set (i := 2) sc_law_number.nd rfl (Or.inl rfl) (pe_op op_add (pe_op op_mul (pv 2) pe_int) (pe_call (ok__law_draw T) (hr.mono (by decide)) rfl T._law_draw.g T._law_draw.F.kp T._law_draw.b .nil pass0 (pa_cons (pv 0) (pa_cons pe_int pa_nil)))))))
      (pss_one (ps_ret (pv 2))))), ?_⟩
    refine ⟨_, rfl, (f : Nat), rfl, by omega, by omega, ?_⟩
    rw [Int.toNat_natCast]
    refine for_range (lo := 0) (n := f) (fun i σ' H' => ∃ (n : Int) (tv : Option V), σ' = [some (.ref h), some (.int (f : Nat)), some (.int n), tv] ∧ 0 ≤ n ∧ n < 10 ^ i ∧ HandAt H' h c ∧ But h H H') ⟨0, none, rfl, by decide, by decide, hA, But.refl h H⟩ ?_ ?_
    · rintro i σ' H' hi ⟨n, tv, rfl, n0, n1, A1, b1⟩
      refine ⟨_, rfl, _, _, rfl, rfl, .inr ⟨by decide, by decide⟩, _, rfl, h, c, 10, rfl, A1, by decide, by decide, fun d H2 d0 d1 A2 b2 => ?_⟩
      refine ⟨_, _, rfl, rfl, n * 10 + d, _, rfl, by omega, ?_, A2, b1.trans b2⟩
      rw [Int.pow_succ]
      omega
    · rintro σ' H' ⟨n, tv, rfl, n0, n1, A1, b1⟩
      exact ⟨_, rfl, k n H' n0 n1 A1 b1⟩
def spRoads : Sp := fun vs H Q _ => ∃ (h c : Addr), vs = [.ref h] ∧ HandAt H h c ∧ ∀ (n : Nat) H', 1 ≤ n → n ≤ 1000000000000000000000000000000 → HandAt H' h c → But h H H' → Q (.int (n : Nat)) H'
theorem ok__law_roads (T : Tx K mg) : FnOk P w K mg base CX0 3 T._law_roads.f T._law_roads.fd ["_law_hand_here"] spRoads := by
  refine T._law_roads.F.ok sc_law_roads (fun vs H Q E h => ?_) (fun cdv A outer s H vs Q E hr h => ?_)
  · obtain ⟨h, c, rfl, _⟩ := h
    rfl
  · obtain ⟨h, c, rfl, hA, k⟩ := h
    have k' : ∀ (n : Int) H', 1 ≤ n → n ≤ 1000000000000000000000000000000 → HandAt H' h c → But h H H' → Q (.int n) H' := fun n H' n0 n1 A b => by
      have := k n.toNat H' (by omega) (by omega) A b
      rwa [Int.toNat_of_nonneg (by omega)] at this
    refine ⟨_, (pss_cons (ps_set (i := 1) sc_law_roads.nd rfl (Or.inl rfl) (pe_call (ok__law_draw T) (hr.mono (by decide)) rfl T._law_draw.g T._law_draw.F.kp T._law_draw.b .nil pass0 (pa_cons (pv 0) (pa_cons pe_int pa_nil))))
      (pss_cons (ps_if (pt_cmpR op_eq (pv 1) pe_int (nomark _))
      (pss_one (ps_ret (pe_op op_add pe_int (pe_call (ok__law_draw T) (hr.mono (by decide)) rfl T._law_draw.g T._law_draw.F.kp T._law_draw.b .nil pass0 (pa_cons (pv 0) (pa_cons pe_int pa_nil))))))
      pss_nil)
      (pss_cons (ps_if (pt_cmpR op_eq (pv 1) pe_int (nomark _))
      (pss_one (ps_ret (pe_op op_add pe_int (pe_call (ok__law_number T) (hr.mono (by decide)) rfl T._law_number.g T._law_number.F.kp T._law_number.b .nil pass0 (pa_cons (pv 0) (pa_cons pe_int pa_nil))))))
      pss_nil)
      (pss_cons (ps_if (pt_cmpR op_eq (pv 1) pe_int (nomark _))
      (pss_one (ps_ret (pe_op op_add pe_int (pe_call (ok__law_number T) (hr.mono (by decide)) rfl T._law_number.g T._law_number.F.kp T._law_number.b .nil pass0 (pa_cons (pv 0) (pa_cons pe_int pa_nil))))))
      pss_nil)
      (pss_one (ps_ret (pe_op op_sub (pe_op op_pow pe_int pe_int) (pe_call (ok__law_draw T) (hr.mono (by decide)) rfl T._law_draw.g T._law_draw.F.kp T._law_draw.b .nil pass0 (pa_cons (pv 0) (pa_cons pe_int pa_nil)))))))))), ?_⟩
    refine ⟨_, rfl, h, c, 4, rfl, hA, by decide, by decide, fun x H1 x0 x1 A1 b1 => ?_⟩
    refine ⟨_, rfl, rfl, _, rfl, ?_⟩
    rw [int_eqd]
    by_cases e0 : x = 0
    · rw [decide_eq_true e0]
      refine iteT ⟨_, rfl, h, c, 12, rfl, A1, by decide, by decide, fun y H2 y0 y1 A2 b2 => ?_⟩
      exact ⟨_, _, rfl, rfl, k' (1 + y) H2 (by omega) (by omega) A2 (b1.trans b2)⟩
    rw [decide_eq_false e0]
    refine iteF ⟨_, rfl, rfl, _, rfl, ?_⟩
    rw [int_eqd]
    by_cases e1 : x = 1
    · rw [decide_eq_true e1]
      refine iteT ⟨_, rfl, h, c, 6, rfl, A1, by decide, fun y H2 y0 y1 A2 b2 => ?_⟩
      exact ⟨_, _, rfl, rfl, k' (1 + y) H2 (by omega) (by have : (10 : Int) ^ 6 = 1000000 := by decide
                                                          omega) A2 (b1.trans b2)⟩
    rw [decide_eq_false e1]
    refine iteF ⟨_, rfl, rfl, _, rfl, ?_⟩
    rw [int_eqd]
    by_cases e2 : x = 2
    · rw [decide_eq_true e2]
      refine iteT ⟨_, rfl, h, c, 30, rfl, A1, by decide, fun y H2 y0 y1 A2 b2 => ?_⟩
      exact ⟨_, _, rfl, rfl, k' (1 + y) H2 (by omega) (by have : (10 : Int) ^ 30 = 1000000000000000000000000000000 := by decide
                                                          omega) A2 (b1.trans b2)⟩
    rw [decide_eq_false e2]
    refine iteF ⟨10, 30, rfl, rfl, ⟨by decide, by decide, by decide⟩, _, rfl, h, c, 3, rfl, A1, by decide, by decide, fun y H2 y0 y1 A2 b2 => ?_⟩
    have e30 : (10 : Int) ^ (30 : Int).toNat = 1000000000000000000000000000000 := by decide
    refine ⟨_, _, rfl, rfl, ?_⟩
    show Q (.int ((10 : Int) ^ (30 : Int).toNat - y)) H2
    rw [e30]
    exact k' _ H2 (by omega) (by omega) A2 (b1.trans b2)
def spMod : Sp := fun vs H Q _ => ∃ (h c : Addr), vs = [.ref h] ∧ HandAt H h c ∧ ∀ (m : Int) H', MdOk m → HandAt H' h c → But h H H' → Q (.int m) H'
theorem ok__law_modulus (T : Tx K mg) : FnOk P w K mg base CX0 3 T._law_modulus.f T._law_modulus.fd ["_law_hand_here"] spMod := by
  refine T._law_modulus.F.ok sc_law_modulus (fun vs H Q E h => ?_) (fun cdv A outer s H vs Q E hr h => ?_)
  · obtain ⟨h, c, rfl, _⟩ := h
    rfl
  · obtain ⟨h, c, rfl, hA, k⟩ := h
    refine ⟨_, (pss_cons (ps_set (i := 1) sc_law_modulus.nd rfl (Or.inl rfl) (pe_call (ok__law_draw T) (hr.mono (by decide)) rfl T._law_draw.g T._law_draw.F.kp T._law_draw.b .nil pass0 (pa_cons (pv 0) (pa_cons pe_int pa_nil))))
      (pss_cons (ps_if (pt_cmpR op_eq (pv 1) pe_int (nomark _))
      (pss_one (ps_ret (pe_op op_add pe_int (pe_call (ok__law_draw T) (hr.mono (by decide)) rfl T._law_draw.g T._law_draw.F.kp T._law_draw.b .nil pass0 (pa_cons (pv 0) (pa_cons pe_int pa_nil))))))
      pss_nil)
      (pss_cons (ps_if (pt_cmpR op_eq (pv 1) pe_int (nomark _))
      (pss_one (ps_ret (pe_op op_add pe_int (pe_call (ok__law_number T) (hr.mono (by decide)) rfl T._law_number.g T._law_number.F.kp T._law_number.b .nil pass0 (pa_cons (pv 0) (pa_cons pe_int pa_nil))))))
      pss_nil)
      (pss_cons (ps_if (pt_cmpR op_eq (pv 1) pe_int (nomark _))
      (pss_one (ps_ret (pe_op op_pow pe_int pe_int)))
      pss_nil)
      (pss_one (ps_ret (pe_op op_add pe_int (pe_call (ok__law_number T) (hr.mono (by decide)) rfl T._law_number.g T._law_number.F.kp T._law_number.b .nil pass0 (pa_cons (pv 0) (pa_cons pe_int pa_nil)))))))))), ?_⟩
    refine ⟨_, rfl, h, c, 5, rfl, hA, by decide, by decide, fun x H1 x0 x1 A1 b1 => ?_⟩
    refine ⟨_, rfl, rfl, _, rfl, ?_⟩
    rw [int_eqd]
    by_cases e0 : x = 0
    · rw [decide_eq_true e0]
      refine iteT ⟨_, rfl, h, c, 9, rfl, A1, by decide, by decide, fun y H2 y0 y1 A2 b2 => ?_⟩
      exact ⟨_, _, rfl, rfl, k (1 + y) H2 ⟨by omega, by omega⟩ A2 (b1.trans b2)⟩
    rw [decide_eq_false e0]
    refine iteF ⟨_, rfl, rfl, _, rfl, ?_⟩
    rw [int_eqd]
    by_cases e1 : x = 1
    · rw [decide_eq_true e1]
      refine iteT ⟨_, rfl, h, c, 4, rfl, A1, by decide, fun y H2 y0 y1 A2 b2 => ?_⟩
      exact ⟨_, _, rfl, rfl, k (1 + y) H2 ⟨by omega, by have : (10 : Int) ^ 4 = 10000 := by decide
                                                        omega⟩ A2 (b1.trans b2)⟩
    rw [decide_eq_false e1]
    refine iteF ⟨_, rfl, rfl, _, rfl, ?_⟩
    rw [int_eqd]
    by_cases e2 : x = 2
    · rw [decide_eq_true e2]
      have e30 : (10 : Int) ^ (30 : Int).toNat = 1000000000000000000000000000000 := by decide
      refine iteT ⟨10, 30, rfl, rfl, ⟨by decide, by decide, by decide⟩, ?_⟩
      show Q (.int ((10 : Int) ^ (30 : Int).toNat)) H1
      rw [e30]
      exact k _ H1 ⟨by decide, by decide⟩ A1 b1
    rw [decide_eq_false e2]
    refine iteF ⟨_, rfl, h, c, 30, rfl, A1, by decide, fun y H2 y0 y1 A2 b2 => ?_⟩
    exact ⟨_, _, rfl, rfl, k (1 + y) H2 ⟨by omega, by have : (10 : Int) ^ 30 = 1000000000000000000000000000000 := by decide
                                                      omega⟩ A2 (b1.trans b2)⟩
end
end Hc


set_option Elab.async false
set_option linter.all false
set_option pp.maxSteps 900
set_option maxRecDepth 100000
set_option maxHeartbeats 4000000
set_option autoImplicit false
namespace Hc
open PySem L2
def Sm (x : Int) : Prop := 0 ≤ x ∧ x ≤ 1000000000000000000000000000000
def BW (x : W3) : Prop := Sm x.a ∧ Sm x.b ∧ Sm x.c
theorem fmod_sm {m : Int} (hm : MdOk m) (x : Int) : Sm (x.fmod m) := by
  obtain ⟨h1, h2⟩ := fmod_in hm x
  have := hm.2
  exact ⟨h1, by omega⟩
def wL (x : W3) : List V := [.int x.a, .int x.b, .int x.c]
section
variable {P : Program} {w : World} {K : PySem.W.Frag} {mg : Str → Option Value} {base : Heap}
def spDbl : Sp := fun vs H Q _ => ∃ (p : Addr) (m : Int) (x : W3), vs = [.ref p, .int m] ∧ H p = some (.lst (wL x)) ∧ BW x ∧ MdOk m ∧ ∀ q, H q = none → Q (.ref q) (upd H q (.lst (wL (dbl x m))))
theorem ok__law_doubled (T : Tx K mg) : FnOk P w K mg base CX0 1 T._law_doubled.f T._law_doubled.fd ["_law_ways_here", "_law_modulus_here"] spDbl := by
  refine T._law_doubled.F.ok sc_law_doubled (fun vs H Q E h => ?_) (fun cdv A outer s H vs Q E hr h => ?_)
  · obtain ⟨p, m, x, rfl, _⟩ := h
    rfl
  · obtain ⟨p, m, x, rfl, hp, ⟨⟨a0, a1⟩, ⟨b0, b1⟩, ⟨c0, c1⟩⟩, hm, k⟩ := h
    refine ⟨_, (pss_cons (ps_asg (pv 0) (pg_lst (by rfl) (pgs_cons (pg_name (i := 2) sc_law_doubled.nd rfl (Or.inl rfl)) (pgs_cons (pg_name (i := 3) sc_law_doubled.nd rfl (Or.inl rfl)) (pgs_cons (pg_name (i := 4) sc_law_doubled.nd rfl (Or.inl rfl)) pgs_nil)))))
      (pss_cons (ps_set (i := 5) sc_law_doubled.nd rfl (Or.inl rfl) (pe_op op_sub (pe_op op_sub (pv 4) (pv 3)) (pv 2)))
      (pss_cons (ps_set (i := 6) sc_law_doubled.nd rfl (Or.inl rfl) (pe_op op_sub (pe_op op_sub (pv 3) (pv 2)) (pv 5)))
      (pss_cons (ps_set (i := 7) sc_law_doubled.nd rfl (Or.inl rfl) (pe_op op_add (pe_op op_add (pe_op op_add (pe_op op_mulX (pv 3) (pv 4)) (pe_op op_mulX (pv 2) (pv 3))) (pe_op op_mulX (pv 3) (pv 5))) (pe_op op_mulX (pv 2) (pv 2))))
      (pss_cons (ps_set (i := 8) sc_law_doubled.nd rfl (Or.inl rfl) (pe_op op_add (pe_op op_add (pe_op op_mulX (pv 3) (pv 3)) (pe_op op_mulX (pv 2) (pv 2))) (pe_op op_mulX (pe_op op_mulX pe_int (pv 2)) (pv 5))))
      (pss_cons (ps_set (i := 9) sc_law_doubled.nd rfl (Or.inl rfl) (pe_op op_add (pe_op op_add (pe_op op_add (pe_op op_mulX (pv 2) (pv 3)) (pe_op op_mulX (pv 2) (pv 5))) (pe_op op_mulX (pv 2) (pv 6))) (pe_op op_mulX (pv 5) (pv 5))))
      (pss_one (ps_ret (pe_lst (pa_cons (pe_op op_modN (pe_callTy call_int1 (by rfl) T.n_int (by decide +kernel) (pa_cons (pv 9) pa_nil)) (pv 1)) (pa_cons (pe_op op_modN (pe_callTy call_int1 (by rfl) T.n_int (by decide +kernel) (pa_cons (pv 8) pa_nil)) (pv 1)) (pa_cons (pe_op op_modN (pe_callTy call_int1 (by rfl) T.n_int (by decide +kernel) (pa_cons (pv 7) pa_nil)) (pv 1)) pa_nil)))))))))))), ?_⟩
    have ba : Bd x.a := .of (by omega) (by omega)
    have bb : Bd x.b := .of (by omega) (by omega)
    have bc : Bd x.c := .of (by omega) (by omega)
    have bu : Bd (x.c - x.b - x.a) := .of (by omega) (by omega)
    have bl : Bd (x.b - x.a - (x.c - x.b - x.a)) := .of (by omega) (by omega)
    have b2 : Bd 2 := .of (by decide) (by decide)
    have b2a : Bd (2 * x.a) := .of (by omega) (by omega)
    refine ⟨_, rfl, p, _, rfl, SqL.of hp, rfl, ?_⟩
    refine ⟨_, _, rfl, _, _, rfl, _, _, rfl, rfl, ?_⟩
    refine ⟨_, rfl, _, rfl, _, _, rfl, rfl, _, rfl, _, _, rfl, rfl, ?_⟩
    refine ⟨_, rfl, _, rfl, _, _, rfl, rfl, _, rfl, _, _, rfl, rfl, ?_⟩
    refine ⟨_, rfl, _, rfl, _, _, rfl, rfl, bb.mul bc, _, rfl, _, rfl, _, _, rfl, rfl, ba.mul bb, _, _, rfl, rfl, _, rfl, _, rfl, _, _, rfl, rfl, bb.mul bu, _, _, rfl, rfl, _, rfl, _, rfl, _, _, rfl, rfl, ba.mul ba, _, _, rfl, rfl, ?_⟩
    refine ⟨_, rfl, _, rfl, _, _, rfl, rfl, bb.mul bb, _, rfl, _, rfl, _, _, rfl, rfl, ba.mul ba, _, _, rfl, rfl, _, rfl, _, _, rfl, rfl, b2.mul ba, _, rfl, _, _, rfl, rfl, b2a.mul bu, _, _, rfl, rfl, ?_⟩
    refine ⟨_, rfl, _, rfl, _, _, rfl, rfl, ba.mul bb, _, rfl, _, rfl, _, _, rfl, rfl, ba.mul bu, _, _, rfl, rfl, _, rfl, _, rfl, _, _, rfl, rfl, ba.mul bl, _, _, rfl, rfl, _, rfl, _, rfl, _, _, rfl, rfl, bu.mul bu, _, _, rfl, rfl, ?_⟩
    refine ⟨_, rfl, .inl ⟨_, rfl, _, rfl, _, _, rfl, rfl, hm.ne, _, rfl, .inl ⟨_, rfl, _, rfl, _, _, rfl, rfl, hm.ne, _, rfl, .inl ⟨_, rfl, _, rfl, _, _, rfl, rfl, hm.ne, by show 3 ≤ sizeLine; decide, fun q hq => ?_⟩⟩⟩⟩
    exact k q hq
def wAt (k i : Nat) : V := .int ((k / 2 ^ i % 2 : Nat) : Int)
theorem bits_get {k n j : Nat} (h : j < n) : (rg n (wAt k))[j]? = some (wAt k j) := by
  unfold rg
  rw [List.getElem?_map, List.getElem?_range h]
  rfl
theorem fm2 (a : Nat) : ((a : Nat) : Int).fmod 2 = ((a % 2 : Nat) : Int) := by
  rw [Int.fmod_eq_emod_of_nonneg _ (by decide)]; rfl
theorem div_pow (k i : Nat) : k / 2 ^ i / 2 = k / 2 ^ (i + 1) := by rw [Nat.div_div_eq_div_mul, Nat.pow_succ]
theorem Ways.to {m : Int} {x : W3} {a b : Nat} (h : Ways m x a) (e : a = b) : Ways m x b := e ▸ h
def spWays : Sp := fun vs H Q _ => ∃ (k : Nat) (m : Int), vs = [.int (k : Nat), .int m] ∧ MdOk m ∧ k < 2 ^ 101 ∧ ∀ p H' x, Same H H' → H' p = some (.lst (wL x)) → Ways m x k → Q (.ref p) H'
theorem ok__law_ways (T : Tx K mg) : FnOk P w K mg base CX0 2 T._law_ways.f T._law_ways.fd ["_law_many", "_law_modulus_here"] spWays := by
  refine T._law_ways.F.ok sc_law_ways (fun vs H Q E h => ?_) (fun cdv A outer s H vs Q E hr h => ?_)
  · obtain ⟨n, m, rfl, _⟩ := h
    rfl
  · obtain ⟨n, m, rfl, hm, hn, k⟩ := h
    refine ⟨_, (pss_cons (ps_set (i := 2) sc_law_ways.nd rfl (Or.inl rfl) (pe_lst pa_nil))
      (pss_cons (ps_set (i := 3) sc_law_ways.nd rfl (Or.inl rfl) (pv 0))
      (pss_cons (ps_for PassesOwn.never rfl (pi_range1 (by rfl) T.n_range (pa_cons pe_int pa_nil)) (pg_name (i := 4) sc_law_ways.nd rfl (Or.inl rfl))
      (pss_cons (ps_expr (pe_bm PySem.F.plainAttrs_list PySem.F.slot_list_append PySem.F.type_list_append mt_append (pv 2) (pa_cons (pe_op op_modN (pe_callTy call_int1 (by rfl) T.n_int (by decide +kernel) (pa_cons (pv 3) pa_nil)) pe_int) pa_nil)))
      (pss_one (ps_set (i := 3) sc_law_ways.nd rfl (Or.inl rfl) (pe_op op_fdivN (pv 3) pe_int)))))
      (pss_cons (ps_set (i := 5) sc_law_ways.nd rfl (Or.inl rfl) (pe_lst (pa_cons pe_int (pa_cons pe_int (pa_cons pe_int pa_nil)))))
      (pss_cons (ps_for PassesOwn.never rfl (pi_reversed (by rfl) T.n_reversed (pa_cons (pv 2) pa_nil)) (pg_name (i := 6) sc_law_ways.nd rfl (Or.inl rfl))
      (pss_cons (ps_set (i := 5) sc_law_ways.nd rfl (Or.inl rfl) (pe_call (ok__law_doubled T) (hr.mono (by decide)) rfl T._law_doubled.g T._law_doubled.F.kp T._law_doubled.b .nil pass0 (pa_cons (pv 5) (pa_cons (pv 1) pa_nil))))
      (pss_one (ps_if (pt_cmpR op_eq (pv 6) pe_int (nomark _))
      (pss_one (ps_set (i := 5) sc_law_ways.nd rfl (Or.inl rfl) (pe_lst (pa_cons (pe_ix ix_list (pv 5) pe_int (fun _ _ => rfl)) (pa_cons (pe_ix ix_list (pv 5) pe_int (fun _ _ => rfl)) (pa_cons (pe_op op_modN (pe_callTy call_int1 (by rfl) T.n_int (by decide +kernel) (pa_cons (pe_op op_add (pe_op op_add (pe_ix ix_list (pv 5) pe_int (fun _ _ => rfl)) (pe_ix ix_list (pv 5) pe_int (fun _ _ => rfl))) (pe_ix ix_list (pv 5) pe_int (fun _ _ => rfl))) pa_nil)) (pv 1)) pa_nil))))))
      pss_nil))))
      (pss_one (ps_ret (pv 5)))))))), ?_⟩
    refine ⟨by show 0 ≤ sizeLine; decide, fun B hB => ?_⟩
    refine ⟨_, rfl, ?_⟩
    refine ⟨101, rfl, by decide, by decide, ?_⟩
    refine for_range (lo := 0) (n := 101) (fun i σ' H' => ∃ tv : Option V, σ' = [some (.int (n : Nat)), some (.int m), some (.ref B), some (.int ((n / 2 ^ i : Nat) : Int)), tv, none, none] ∧ Same H H' ∧ H' B = some (.lst (rg i (wAt n))))
      ⟨none, by rw [Nat.pow_zero, Nat.div_one]; rfl, same_upd hB, upd_same⟩ ?_ ?_
    · rintro i σ' H' hi ⟨tv, rfl, sm, eB⟩
      refine ⟨_, rfl, .inl ⟨rfl, _, SqL.of eB⟩, _, rfl, .inl ⟨_, rfl, _, _, rfl, rfl, (show (2 : Int) ≠ 0 by decide), B, _, _, rfl, rfl, eB, rg_lt (by omega) _, _, rfl, _, _, rfl, rfl, ⟨by decide, by decide⟩, some (.int (0 + i)), ?_, same_putX sm hB, ?_⟩⟩
      · dsimp only; rw [half, div_pow]; rfl
      · rw [upd_same, ← rg_succ]
        dsimp only
        rw [fm2]
        rfl
    · rintro σ' H' ⟨tv, rfl, sm, eB⟩
      refine ⟨by show 3 ≤ sizeLine; decide, fun W hW => ?_⟩
      have sW := sm.trans (same_upd (o := .lst (wL ⟨0, 1, 1⟩)) hW)
      have eW : (upd H' W (.lst (wL ⟨0, 1, 1⟩))) W = some (.lst (wL ⟨0, 1, 1⟩)) := upd_same
      have eB' := same_upd (o := .lst (wL ⟨0, 1, 1⟩)) hW _ _ eB
      show _
      refine ⟨_, rfl, B, _, rfl, SqL.of eB', ?_⟩
      rw [rg_len]
      refine for_rev (K := K) (a := B) (xs := rg 101 (wAt n)) (n := 101) (rg_len _ _) (fun i σ2 H2 => ∃ (p : Addr) (x : W3) (bv : Option V), σ2 = [some (.int (n : Nat)), some (.int m), some (.ref B), some (.int ((n / 2 ^ 101 : Nat) : Int)), tv, some (.ref p), bv] ∧ Same H H2 ∧ H2 p = some (.lst (wL x)) ∧ BW x ∧ Ways m x (n / 2 ^ (101 - i)) ∧ H2 B = some (.lst (rg 101 (wAt n))))
        ⟨W, ⟨0, 1, 1⟩, none, rfl, sW, eW, ⟨⟨by decide, by decide⟩, ⟨by decide, by decide⟩, ⟨by decide, by decide⟩⟩, (ways0 m).to (Nat.div_eq_of_lt hn).symm, eB'⟩ (fun i σ2 H2 _ ⟨_, _, _, _, _, _, _, _, q⟩ => SqL.of q) ?_ ?_
      · rintro i b σ2 H2 hi hb ⟨p, x, bv, rfl, s2, ep, bw, wy, eB2⟩
        obtain rfl : wAt n (100 - i) = b := Option.some.inj ((bits_get (by omega)).symm.trans hb)
        refine ⟨_, rfl, _, rfl, p, m, x, rfl, ep, bw, hm, fun q hq => ?_⟩
        have wd := wy.dbl hm.pos
        have eB3 := same_upd (o := .lst (wL (dbl x m))) hq _ _ eB2
        have s3 := s2.trans (same_upd (o := .lst (wL (dbl x m))) hq)
        have bd : BW (dbl x m) := ⟨fmod_sm hm _, fmod_sm hm _, fmod_sm hm _⟩
        have e1 : n / 2 ^ (101 - i) = n / 2 ^ (100 - i) / 2 := by rw [div_pow, show 100 - i + 1 = 101 - i by omega]
        rw [e1] at wd
        refine ⟨_, rfl, rfl, _, rfl, ?_⟩
        show if decide (V.int ((n / 2 ^ (100 - i) % 2 : Nat) : Int) = V.int 1) = true then _ else _
        rw [int_eqd]
        by_cases e : n / 2 ^ (100 - i) % 2 = 1
        · rw [e]
          refine iteT ⟨_, rfl, q, _, 1, _, rfl, rfl, SqL.of upd_same, atI_nat (j := 1) rfl, _, rfl, q, _, 2, _, rfl, rfl, SqL.of upd_same, atI_nat (j := 2) rfl, _, rfl, q, _, 0, _, rfl, rfl, SqL.of upd_same, atI_nat (j := 0) rfl, _, rfl, q, _, 1, _, rfl, rfl, SqL.of upd_same, atI_nat (j := 1) rfl, _, _, rfl, rfl, _, rfl, q, _, 2, _, rfl, rfl, SqL.of upd_same, atI_nat (j := 2) rfl, _, _, rfl, rfl, .inl ⟨_, rfl, _, rfl, _, _, rfl, rfl, hm.ne, by show 3 ≤ sizeLine; decide, fun q2 hq2 => ?_⟩⟩
          have bn : BW (nxt (dbl x m) m) := ⟨bd.2.1, bd.2.2, fmod_sm hm _⟩
          refine ⟨q2, nxt (dbl x m) m, _, rfl, s3.trans (same_upd hq2), upd_same, bn, (wd.nxt hm.pos).to ?_, same_upd hq2 _ _ eB3⟩
          rw [show 101 - (i + 1) = 100 - i by omega]
          omega
        · have e' : ¬ ((n / 2 ^ (100 - i) % 2 : Nat) : Int) = 1 := by omega
          rw [decide_eq_false e']
          refine iteF ⟨q, dbl x m, _, rfl, s3, upd_same, bd, wd.to ?_, eB3⟩
          rw [show 101 - (i + 1) = 100 - i by omega]
          omega
      · rintro σ2 H2 ⟨p, x, bv, rfl, s2, ep, bw, wy, eB2⟩
        refine ⟨_, rfl, k p H2 x s2 ep (wy.to ?_)⟩
        rw [Nat.sub_self, Nat.pow_zero, Nat.div_one]
end
end Hc


set_option Elab.async false
set_option linter.all false
set_option pp.maxSteps 900
set_option maxRecDepth 100000
set_option maxHeartbeats 4000000
set_option autoImplicit false
namespace Hc
open PySem L2
def Many (n : Nat) : Prop := 1 ≤ n ∧ n ≤ 1000000000000000000000000000000
theorem LL_sm {n : Nat} {m : Int} (hm : MdOk m) : Sm (LL n m) := fmod_sm hm _
theorem Sm.bd {x : Int} (h : Sm x) : Bd x := .of (by have := h.1; omega) (by have := h.2; omega)
section
variable {P : Program} {w : World} {K : PySem.W.Frag} {mg : Str → Option Value} {base : Heap}
def spCounts : Sp := fun vs H Q _ => ∃ (n : Nat) (m : Int), vs = [.int (n : Nat), .int m] ∧ Many n ∧ MdOk m ∧ ∀ H', Same H H' → Q (.bl true) H'
theorem ok__law_counts (T : Tx K mg) : FnOk P w K mg base CX0 6 T._law_counts.f T._law_counts.fd ["_law_many", "_law_modulus_here"] spCounts := by
  refine T._law_counts.F.ok sc_law_counts (fun vs H Q E h => ?_) (fun cdv A outer s H vs Q E hr h => ?_)
  · obtain ⟨n, m, rfl, _⟩ := h
    rfl
  · obtain ⟨n, m, rfl, hn, hm, k⟩ := h
    obtain ⟨n, rfl⟩ : ∃ k, n = k + 1 := ⟨n - 1, by have := hn.1; omega⟩
    refine ⟨_, (pss_cons (ps_set (i := 2) sc_law_counts.nd rfl (Or.inl rfl) (pe_call (ok__law_ways T) (hr.mono (by decide)) rfl T._law_ways.g T._law_ways.F.kp T._law_ways.b .nil pass0 (pa_cons (pe_op op_sub (pv 0) pe_int) (pa_cons (pv 1) pa_nil))))
      (pss_cons (ps_set (i := 3) sc_law_counts.nd rfl (Or.inl rfl) (pe_call (ok_line_lots T) (hr.mono (by decide)) rfl T.line_lots.g T.line_lots.F.kp T.line_lots.b .nil pass0 (pa_cons (pv 0) (pa_cons (pv 1) pa_nil))))
      (pss_cons (ps_if (PW.pt (pw_or (pt_not (pt_val (pe_call (ok__law_is_integer T) (hr.mono (by decide)) rfl T._law_is_integer.g T._law_is_integer.F.kp T._law_is_integer.b .nil pass0 (pa_cons (pv 3) pa_nil)))) (pw_or1 (pt_cmpR op_ne (pv 3) (pe_op op_modN (pe_callTy call_int1 (by rfl) T.n_int (by decide +kernel) (pa_cons (pe_op op_mul pe_int (pe_ix ix_list (pv 2) pe_int (fun _ _ => rfl))) pa_nil)) (pv 1)) (nomark _)))))
      (pss_one (ps_ret pe_bl))
      pss_nil)
      (pss_cons (ps_if (pt_cmpR op_eq (pv 0) pe_int (nomark _))
      (pss_one (ps_ret pe_bl))
      pss_nil)
      (pss_cons (ps_set (i := 3) sc_law_counts.nd rfl (Or.inl rfl) (pe_call (ok_ring_lots T) (hr.mono (by decide)) rfl T.ring_lots.g T.ring_lots.F.kp T.ring_lots.b .nil pass0 (pa_cons (pv 0) (pa_cons (pv 1) pa_nil))))
      (pss_one (ps_ret (pe_and (pe_call (ok__law_is_integer T) (hr.mono (by decide)) rfl T._law_is_integer.g T._law_is_integer.F.kp T._law_is_integer.b .nil pass0 (pa_cons (pv 3) pa_nil)) (pe_one (pe_cmpR op_eq (pv 3) (pe_op op_modN (pe_callTy call_int1 (by rfl) T.n_int (by decide +kernel) (pa_cons (pe_op op_sub (pe_op op_sub (pe_op op_mul pe_int (pe_ix ix_list (pv 2) pe_int (fun _ _ => rfl))) (pe_ix ix_list (pv 2) pe_int (fun _ _ => rfl))) (pe_op op_mul pe_int (pe_ix ix_list (pv 2) pe_int (fun _ _ => rfl)))) pa_nil)) (pv 1)) (nomark _))))))))))), ?_⟩
    refine ⟨_, rfl, _, _, rfl, rfl, _, rfl, n, m, by dsimp only; rw [show ((n + 1 : Nat) : Int) - 1 = (n : Nat) by omega]; rfl, hm, ?_, fun p H1 x s1 ep wy => ?_⟩
    · have h2 := hn.2
      have e : (2 : Nat) ^ 101 = 2535301200456458802993406410752 := by decide
      rw [e]
      omega
    refine ⟨_, rfl, _, rfl, n + 1, m, rfl, hm, hn.1, hn.2, fun H2 s2 => ?_⟩
    have ep2 := s2 _ _ ep
    refine ⟨_, rfl, 0, .int _, .int _, rfl, .int _, _, rfl, iteF ⟨_, rfl, _, rfl, p, _, 2, _, rfl, rfl, SqL.of ep2, atI_nat (j := 2) rfl, _, _, rfl, rfl, .inl ⟨by decide, by decide⟩, .inl ⟨_, rfl, _, rfl, _, _, rfl, rfl, hm.ne, rfl, _, rfl, ?_⟩⟩⟩
    show if (!decide (V.int (LL (n + 1) m) = V.int ((2 * x.c).fmod m))) = true then _ else _
    rw [ways_line hm.pos wy, int_eqd, decide_eq_true rfl]
    refine iteF ⟨_, rfl, rfl, _, rfl, ?_⟩
    rw [int_eqd]
    by_cases e : ((n + 1 : Nat) : Int) = 1
    · rw [decide_eq_true e]
      exact iteT (k H2 (s1.trans s2))
    rw [decide_eq_false e]
    refine iteF ⟨_, rfl, _, rfl, n + 1, m, rfl, hm, by omega, hn.2, fun H3 s3 => ?_⟩
    have ep3 := s3 _ _ ep2
    refine ⟨_, rfl, 0, .int _, .int _, rfl, .int _, _, rfl, iteT ?_⟩
    refine ⟨_, rfl, _, rfl, p, _, 2, _, rfl, rfl, SqL.of ep3, atI_nat (j := 2) rfl, _, _, rfl, rfl, .inl ⟨by decide, by decide⟩, _, rfl, p, _, 0, _, rfl, rfl, SqL.of ep3, atI_nat (j := 0) rfl, _, _, rfl, rfl, _, rfl, p, _, 1, _, rfl, rfl, SqL.of ep3, atI_nat (j := 1) rfl, _, _, rfl, rfl, .inl ⟨by decide, by decide⟩, _, _, rfl, rfl, .inl ⟨_, rfl, _, rfl, _, _, rfl, rfl, hm.ne, rfl, ?_⟩⟩
    show Q (.bl (decide (V.int (RL (n + 1) m) = V.int ((3 * x.c - x.a - 2 * x.b).fmod m)))) H3
    rw [ways_ring hm.pos wy, int_eqd, decide_eq_true rfl]
    exact k H3 ((s1.trans s2).trans s3)
def spLeast : Sp := fun vs H Q _ => ∃ (n : Nat), vs = [.int (n : Nat)] ∧ Many n ∧ Q (.bl true) H
theorem ok__law_least (T : Tx K mg) : FnOk P w K mg base CX0 6 T._law_least.f T._law_least.fd ["_law_many"] spLeast := by
  refine T._law_least.F.ok sc_law_least (fun vs H Q E h => ?_) (fun cdv A outer s H vs Q E hr h => ?_)
  · obtain ⟨n, rfl, _⟩ := h
    rfl
  · obtain ⟨n, rfl, hn, k⟩ := h
    have h1 := hn.1
    refine ⟨_, (pss_cons (ps_set (i := 1) sc_law_least.nd rfl (Or.inl rfl) (pe_call (ok_line_least T) (hr.mono (by decide)) rfl T.line_least.g T.line_least.F.kp T.line_least.b .nil pass0 (pa_cons (pv 0) pa_nil)))
      (pss_cons (ps_if (PW.pt (pw_or (pt_not (pt_val (pe_call (ok__law_is_integer T) (hr.mono (by decide)) rfl T._law_is_integer.g T._law_is_integer.F.kp T._law_is_integer.b .nil pass0 (pa_cons (pv 1) pa_nil)))) (pw_or1 (pt_not (pt_chain op_le op_le (pe_op op_mul pe_int (pv 1)) (pe_op op_sub (pv 0) pe_int) (pe_op op_add (pe_op op_mul pe_int (pv 1)) pe_int))))))
      (pss_one (ps_ret pe_bl))
      pss_nil)
      (pss_cons (ps_if (pt_cmpR op_eq (pv 0) pe_int (nomark _))
      (pss_one (ps_ret pe_bl))
      pss_nil)
      (pss_cons (ps_set (i := 1) sc_law_least.nd rfl (Or.inl rfl) (pe_call (ok_ring_least T) (hr.mono (by decide)) rfl T.ring_least.g T.ring_least.F.kp T.ring_least.b .nil pass0 (pa_cons (pv 0) pa_nil)))
      (pss_one (ps_ret (pe_and (pe_call (ok__law_is_integer T) (hr.mono (by decide)) rfl T._law_is_integer.g T._law_is_integer.F.kp T._law_is_integer.b .nil pass0 (pa_cons (pv 1) pa_nil)) (pe_one (pe_chain op_le op_le (pe_op op_sub (pe_op op_mul pe_int (pv 1)) pe_int) (pv 0) (pe_op op_mul pe_int (pv 1))))))))))), ?_⟩
    refine ⟨_, rfl, n, rfl, hn.1, hn.2, ?_⟩
    refine ⟨_, rfl, 0, .int _, .int _, rfl, .int _, _, rfl, iteF ?_⟩
    refine ⟨_, rfl, _, _, rfl, rfl, .inl ⟨by decide, by decide⟩, _, rfl, _, _, rfl, rfl, _, _, rfl, rfl, _, rfl, ?_⟩
    have c1 : 3 * ((((n - 1) / 3 : Nat)) : Int) ≤ (n : Int) - 1 := by omega
    have c2 : (n : Int) - 1 ≤ 3 * ((((n - 1) / 3 : Nat)) : Int) + 2 := by omega
    rw [decide_eq_true c1]
    refine iteT ⟨_, rfl, _, _, rfl, rfl, .inl ⟨by decide, by decide⟩, _, _, rfl, rfl, _, _, rfl, rfl, _, rfl, ?_⟩
    rw [decide_eq_true c2]
    refine iteF ?_
    refine ⟨_, rfl, rfl, _, rfl, ?_⟩
    rw [int_eqd]
    by_cases e : (n : Int) = 1
    · rw [decide_eq_true e]
      exact iteT k
    rw [decide_eq_false e]
    refine iteF ⟨_, rfl, n, rfl, by omega, hn.2, ?_⟩
    refine ⟨_, rfl, 0, .int _, .int _, rfl, .int _, _, rfl, iteT ?_⟩
    refine ⟨_, rfl, _, _, rfl, rfl, .inl ⟨by decide, by decide⟩, _, _, rfl, rfl, _, rfl, _, _, rfl, rfl, _, rfl, ?_⟩
    have c3 : 3 * ((((n + 2) / 3 : Nat)) : Int) - 2 ≤ (n : Int) := by omega
    have c4 : (n : Int) ≤ 3 * ((((n + 2) / 3 : Nat)) : Int) := by omega
    rw [decide_eq_true c3]
    refine iteT ⟨_, rfl, _, _, rfl, rfl, .inl ⟨by decide, by decide⟩, _, _, rfl, rfl, ?_⟩
    show Q (.bl (decide ((n : Int) ≤ 3 * ((((n + 2) / 3 : Nat)) : Int)))) H
    rw [decide_eq_true c4]
    exact k
def spRbl : Sp := fun vs H Q _ => ∃ (n : Nat) (m : Int), vs = [.int (n : Nat), .int m] ∧ Many n ∧ 4 ≤ n ∧ MdOk m ∧ ∀ H', Same H H' → Q (.bl true) H'
theorem ok__law_rings_by_lines (T : Tx K mg) : FnOk P w K mg base CX0 6 T._law_rings_by_lines.f T._law_rings_by_lines.fd ["_law_many", "_law_modulus_here"] spRbl := by
  refine T._law_rings_by_lines.F.ok sc_law_rings_by_lines (fun vs H Q E h => ?_) (fun cdv A outer s H vs Q E hr h => ?_)
  · obtain ⟨n, m, rfl, _⟩ := h
    rfl
  · obtain ⟨n, m, rfl, hn, h4, hm, k⟩ := h
    obtain ⟨n, rfl⟩ : ∃ k, n = k + 3 := ⟨n - 3, by omega⟩
    have h2 := hn.2
    refine ⟨_, (pss_cons (ps_set (i := 2) sc_law_rings_by_lines.nd rfl (Or.inl rfl) (pe_op op_mul pe_int (pe_call (ok_ring_lots T) (hr.mono (by decide)) rfl T.ring_lots.g T.ring_lots.F.kp T.ring_lots.b .nil pass0 (pa_cons (pv 0) (pa_cons (pv 1) pa_nil)))))
      (pss_cons (ps_set (i := 3) sc_law_rings_by_lines.nd rfl (Or.inl rfl) (pe_op op_add (pe_op op_add (pe_call (ok_line_lots T) (hr.mono (by decide)) rfl T.line_lots.g T.line_lots.F.kp T.line_lots.b .nil pass0 (pa_cons (pv 0) (pa_cons (pv 1) pa_nil))) (pe_call (ok_line_lots T) (hr.mono (by decide)) rfl T.line_lots.g T.line_lots.F.kp T.line_lots.b .nil pass0 (pa_cons (pe_op op_sub (pv 0) pe_int) (pa_cons (pv 1) pa_nil)))) (pe_op op_mul pe_int (pe_call (ok_line_lots T) (hr.mono (by decide)) rfl T.line_lots.g T.line_lots.F.kp T.line_lots.b .nil pass0 (pa_cons (pe_op op_sub (pv 0) pe_int) (pa_cons (pv 1) pa_nil))))))
      (pss_one (ps_ret (pe_cmpR op_eq (pe_op op_modN (pe_callTy call_int1 (by rfl) T.n_int (by decide +kernel) (pa_cons (pe_op op_sub (pv 2) (pv 3)) pa_nil)) (pv 1)) pe_int (nomark _)))))), ?_⟩
    refine ⟨_, rfl, _, rfl, n + 3, m, rfl, hm, by omega, hn.2, fun H1 s1 => ⟨_, _, rfl, rfl, .inl ⟨by decide, by decide⟩, ?_⟩⟩
    refine ⟨_, rfl, _, rfl, n + 3, m, rfl, hm, hn.1, hn.2, fun H2 s2 => ?_⟩
    refine ⟨_, rfl, _, _, rfl, rfl, _, rfl, n + 1, m, by dsimp only; rw [show ((n + 3 : Nat) : Int) - 2 = ((n + 1 : Nat) : Int) by omega]; rfl, hm, by omega, by omega, fun H3 s3 => ?_⟩
    refine ⟨_, _, rfl, rfl, ?_⟩
    refine ⟨_, rfl, _, _, rfl, rfl, _, rfl, n, m, by dsimp only; rw [show ((n + 3 : Nat) : Int) - 3 = ((n : Nat) : Int) by omega]; rfl, hm, by omega, by omega, fun H4 s4 => ?_⟩
    refine ⟨_, _, rfl, rfl, .inl ⟨by decide, by decide⟩, _, _, rfl, rfl, ?_⟩
    refine ⟨_, rfl, _, rfl, _, _, rfl, rfl, .inl ⟨_, rfl, _, rfl, _, _, rfl, rfl, hm.ne, rfl, ?_⟩⟩
    show Q (.bl (decide (V.int ((2 * RL (n + 3) m - (LL (n + 3) m + LL (n + 1) m + 2 * LL n m)).fmod m) = V.int 0))) H4
    rw [rings_by_lines hm.pos n, int_eqd, decide_eq_true rfl]
    exact k H4 (((s1.trans s2).trans s3).trans s4)
def spCut : Sp := fun vs H Q _ => ∃ (f b : Nat) (m : Int), vs = [.int ((f + b + 4 : Nat) : Int), .int ((f + 1 : Nat) : Int), .int m] ∧ Many (f + b + 4) ∧ 1 ≤ f ∧ 1 ≤ b ∧ MdOk m ∧ ∀ H', Same H H' → Q (.bl true) H'
theorem ok__law_cut (T : Tx K mg) : FnOk P w K mg base CX0 6 T._law_cut.f T._law_cut.fd ["_law_many", "_law_front", "_law_modulus_here"] spCut := by
  refine T._law_cut.F.ok sc_law_cut (fun vs H Q E h => ?_) (fun cdv A outer s H vs Q E hr h => ?_)
  · obtain ⟨f, b, m, rfl, _⟩ := h
    rfl
  · obtain ⟨f, b, m, rfl, hn, hf, hb, hm, k⟩ := h
    have h2 := hn.2
    refine ⟨_, (C8.pss_cut (ps_set (i := 3) sc_law_cut.nd rfl (Or.inl rfl) (pe_op op_sub (pe_op op_sub (pv 0) pe_int) (pv 1)))
      (pss_cons (ps_set (i := 4) sc_law_cut.nd rfl (Or.inl rfl) (pe_op op_mulX (pe_call (ok_line_lots T) (hr.mono (by decide)) rfl T.line_lots.g T.line_lots.F.kp T.line_lots.b .nil pass0 (pa_cons (pe_op op_add (pv 1) pe_int) (pa_cons (pv 2) pa_nil))) (pe_call (ok_line_lots T) (hr.mono (by decide)) rfl T.line_lots.g T.line_lots.F.kp T.line_lots.b .nil pass0 (pa_cons (pe_op op_add (pv 3) pe_int) (pa_cons (pv 2) pa_nil)))))
      (pss_cons (ps_set (i := 5) sc_law_cut.nd rfl (Or.inl rfl) (pe_op op_mulX (pe_call (ok_line_lots T) (hr.mono (by decide)) rfl T.line_lots.g T.line_lots.F.kp T.line_lots.b .nil pass0 (pa_cons (pv 1) (pa_cons (pv 2) pa_nil))) (pe_call (ok_line_lots T) (hr.mono (by decide)) rfl T.line_lots.g T.line_lots.F.kp T.line_lots.b .nil pass0 (pa_cons (pv 3) (pa_cons (pv 2) pa_nil)))))
      (pss_cons (ps_set (i := 6) sc_law_cut.nd rfl (Or.inl rfl) (pe_op op_mulX (pe_call (ok_line_lots T) (hr.mono (by decide)) rfl T.line_lots.g T.line_lots.F.kp T.line_lots.b .nil pass0 (pa_cons (pv 1) (pa_cons (pv 2) pa_nil))) (pe_call (ok_line_lots T) (hr.mono (by decide)) rfl T.line_lots.g T.line_lots.F.kp T.line_lots.b .nil pass0 (pa_cons (pe_op op_sub (pv 3) pe_int) (pa_cons (pv 2) pa_nil)))))
      (pss_cons (ps_set (i := 7) sc_law_cut.nd rfl (Or.inl rfl) (pe_op op_mulX (pe_call (ok_line_lots T) (hr.mono (by decide)) rfl T.line_lots.g T.line_lots.F.kp T.line_lots.b .nil pass0 (pa_cons (pe_op op_sub (pv 1) pe_int) (pa_cons (pv 2) pa_nil))) (pe_call (ok_line_lots T) (hr.mono (by decide)) rfl T.line_lots.g T.line_lots.F.kp T.line_lots.b .nil pass0 (pa_cons (pv 3) (pa_cons (pv 2) pa_nil)))))
      (pss_one (ps_ret (pe_cmpR op_eq (pe_op op_modN (pe_callTy call_int1 (by rfl) T.n_int (by decide +kernel) (pa_cons (pe_op op_sub (pe_op op_sub (pe_op op_sub (pe_op op_sub (pe_op op_mulX pe_int (pe_call (ok_line_lots T) (hr.mono (by decide)) rfl T.line_lots.g T.line_lots.F.kp T.line_lots.b .nil pass0 (pa_cons (pv 0) (pa_cons (pv 2) pa_nil)))) (pv 4)) (pv 5)) (pv 6)) (pv 7)) pa_nil)) (pv 2)) pe_int (nomark _))))))))), ?_⟩
    refine ⟨fun σ' H' => σ' = [some (.int ((f + b + 4 : Nat) : Int)), some (.int ((f + 1 : Nat) : Int)), some (.int m), some (.int ((b + 1 : Nat) : Int)), none, none, none, none] ∧ H' = H, ?_, ?_⟩
    · refine ⟨_, rfl, _, _, rfl, rfl, _, rfl, _, _, rfl, rfl, ?_, rfl⟩
      dsimp only
      rw [show ((f + b + 4 : Nat) : Int) - 2 - ((f + 1 : Nat) : Int) = ((b + 1 : Nat) : Int) by omega]
      rfl
    rintro σ' H' ⟨rfl, rfl⟩
    -- told
    refine ⟨_, rfl, _, _, rfl, rfl, _, rfl, f + 2, m, rfl, hm, by omega, by omega, fun H1 s1 => ?_⟩
    refine ⟨_, rfl, _, _, rfl, rfl, _, rfl, b + 2, m, rfl, hm, by omega, by omega, fun H2 s2 => ⟨_, _, rfl, rfl, (LL_sm hm).bd.mul (LL_sm hm).bd, ?_⟩⟩
    -- alone
    refine ⟨_, rfl, _, rfl, f + 1, m, rfl, hm, by omega, by omega, fun H3 s3 => ?_⟩
    refine ⟨_, rfl, _, rfl, b + 1, m, rfl, hm, by omega, by omega, fun H4 s4 => ⟨_, _, rfl, rfl, (LL_sm hm).bd.mul (LL_sm hm).bd, ?_⟩⟩
    -- later
    refine ⟨_, rfl, _, rfl, f + 1, m, rfl, hm, by omega, by omega, fun H5 s5 => ?_⟩
    refine ⟨_, rfl, _, _, rfl, rfl, _, rfl, b, m, by dsimp only; rw [show ((b + 1 : Nat) : Int) - 1 = ((b : Nat) : Int) by omega]; rfl, hm, by omega, by omega, fun H6 s6 => ⟨_, _, rfl, rfl, (LL_sm hm).bd.mul (LL_sm hm).bd, ?_⟩⟩
    -- earlier
    refine ⟨_, rfl, _, _, rfl, rfl, _, rfl, f, m, by dsimp only; rw [show ((f + 1 : Nat) : Int) - 1 = ((f : Nat) : Int) by omega]; rfl, hm, by omega, by omega, fun H7 s7 => ?_⟩
    refine ⟨_, rfl, _, rfl, b + 1, m, rfl, hm, by omega, by omega, fun H8 s8 => ⟨_, _, rfl, rfl, (LL_sm hm).bd.mul (LL_sm hm).bd, ?_⟩⟩
    -- the sum
    refine ⟨_, rfl, _, rfl, f + b + 4, m, rfl, hm, hn.1, hn.2, fun H9 s9 => ?_⟩
    have b2 : Bd 2 := .of (by decide) (by decide)
    refine ⟨_, _, rfl, rfl, b2.mul (LL_sm hm).bd, _, rfl, _, _, rfl, rfl, _, rfl, _, _, rfl, rfl, _, rfl, _, _, rfl, rfl, _, rfl, _, _, rfl, rfl, .inl ⟨_, rfl, _, rfl, _, _, rfl, rfl, hm.ne, rfl, ?_⟩⟩
    show Q (.bl (decide (V.int ((2 * LL (f + b + 4) m - LL (f + 2) m * LL (b + 2) m - LL (f + 1) m * LL (b + 1) m - LL (f + 1) m * LL b m - LL f m * LL (b + 1) m).fmod m) = V.int 0))) H9
    rw [line_cut hm.pos f b, int_eqd, decide_eq_true rfl]
    exact k H9 ((((((((s1.trans s2).trans s3).trans s4).trans s5).trans s6).trans s7).trans s8).trans s9)
def spLaw (K : PySem.W.Frag) : Sp := fun vs H Q _ => ∃ (a : Addr) (ns : List Int), vs = [.ref a] ∧ SqL K H a (ns.map V.int) ∧ ns.length ≤ 63 ∧ ∀ H', Q (.bl true) H'
theorem ok_law (T : Tx K mg) : FnOk P w K mg base CX0 8 T.law.f T.law.fd ["_law_script"] (spLaw K) := by
  refine T.law.F.ok sc_law (fun vs H Q E h => ?_) (fun cdv A outer s H vs Q E hr h => ?_)
  · obtain ⟨a, ns, rfl, _⟩ := h
    rfl
  · obtain ⟨a, ns, rfl, hS, hl, k⟩ := h
    refine ⟨_, (pss_cons (ps_set (i := 1) sc_law.nd rfl (Or.inl rfl) (pe_call (ok__law_hand T) (hr.mono (by decide)) rfl T._law_hand.g T._law_hand.F.kp T._law_hand.b .nil pass0 (pa_cons (pv 0) pa_nil)))
      (pss_cons (ps_for PassesOwn.never rfl (pi_range1 (by rfl) T.n_range (pa_cons pe_int pa_nil)) (pg_name (i := 2) sc_law.nd rfl (Or.inl rfl))
      (pss_cons (ps_set (i := 3) sc_law.nd rfl (Or.inl rfl) (pe_call (ok__law_roads T) (hr.mono (by decide)) rfl T._law_roads.g T._law_roads.F.kp T._law_roads.b .nil pass0 (pa_cons (pv 1) pa_nil)))
      (pss_cons (ps_set (i := 4) sc_law.nd rfl (Or.inl rfl) (pe_call (ok__law_modulus T) (hr.mono (by decide)) rfl T._law_modulus.g T._law_modulus.F.kp T._law_modulus.b .nil pass0 (pa_cons (pv 1) pa_nil)))
      (pss_cons (ps_set (i := 5) sc_law.nd rfl (Or.inl rfl) (pe_call (ok__law_number T) (hr.mono (by decide)) rfl T._law_number.g T._law_number.F.kp T._law_number.b .nil pass0 (pa_cons (pv 1) (pa_cons pe_int pa_nil))))
      (pss_cons (ps_if (PW.pt (pw_or (pt_not (pt_val (pe_call (ok__law_counts T) (hr.mono (by decide)) rfl T._law_counts.g T._law_counts.F.kp T._law_counts.b .nil pass0 (pa_cons (pv 3) (pa_cons (pv 4) pa_nil))))) (pw_or1 (pt_not (pt_val (pe_call (ok__law_least T) (hr.mono (by decide)) rfl T._law_least.g T._law_least.F.kp T._law_least.b .nil pass0 (pa_cons (pv 3) pa_nil)))))))
      (pss_one (ps_ret pe_bl))
      pss_nil)
      (C8.pss_cut (ps_if (PW.pt (pw_and (pt_cmpR op_ge (pv 3) pe_int (nomark _)) (pw_and1 (pt_not (pt_val (pe_call (ok__law_rings_by_lines T) (hr.mono (by decide)) rfl T._law_rings_by_lines.g T._law_rings_by_lines.F.kp T._law_rings_by_lines.b .nil pass0 (pa_cons (pv 3) (pa_cons (pv 4) pa_nil))))))))
      (pss_one (ps_ret pe_bl))
      pss_nil)
      (pss_one (ps_if (PW.pt (pw_and (pt_cmpR op_ge (pv 3) pe_int (nomark _)) (pw_and1 (pt_not (pt_val (pe_call (ok__law_cut T) (hr.mono (by decide)) rfl T._law_cut.g T._law_cut.F.kp T._law_cut.b .nil pass0 (pa_cons (pv 3) (pa_cons (pe_op op_add pe_int (pe_op op_modN (pe_callTy call_int1 (by rfl) T.n_int (by decide +kernel) (pa_cons (pv 5) pa_nil)) (pe_op op_sub (pv 3) pe_int))) (pa_cons (pv 4) pa_nil)))))))))
      (pss_one (ps_ret pe_bl))
      pss_nil))))))))
      (pss_one (ps_ret pe_bl)))), ?_⟩
    refine ⟨_, rfl, a, ns, rfl, hS, hl, fun h c H0 s0 p0 => ?_⟩
    clear hS hl s0
    refine ⟨3, rfl, by decide, by decide, for_range (lo := 0) (n := 3) (fun i σ' H' => ∃ (x y z t : Option V), σ' = [some (.ref a), some (.ref h), x, y, z, t] ∧ HandAt H' h c) ⟨none, none, none, none, rfl, p0⟩ ?_ ?_⟩
    · rintro i σ' H1 hi ⟨x, y, z, t, rfl, p1⟩
      refine ⟨_, rfl, h, c, rfl, p1, fun n H2 n1 n2 p2 b2 => ?_⟩
      refine ⟨_, rfl, h, c, rfl, p2, fun m H3 hm p3 b3 => ?_⟩
      refine ⟨_, rfl, h, c, 30, rfl, p3, by decide, fun fr H4 f0 f1 p4 b4 => ?_⟩
      refine ⟨_, rfl, _, rfl, n, m, rfl, ⟨n1, n2⟩, hm, fun H5 s5 => ?_⟩
      have p5 := p4.mono s5
      refine ⟨_, rfl, iteF ⟨_, rfl, n, rfl, ⟨n1, n2⟩, _, rfl, iteF ?_⟩⟩
      refine ⟨fun σ' H' => ∃ tv : V, σ' = [some (.ref a), some (.ref h), some tv, some (.int (n : Nat)), some (.int m), some (.int fr)] ∧ HandAt H' h c, ?_, ?_⟩
      · refine ⟨_, rfl, _, _, rfl, rfl, _, rfl, ?_⟩
        by_cases e : (4 : Int) ≤ (n : Int)
        · rw [decide_eq_true e]
          exact iteT ⟨_, rfl, _, rfl, n, m, rfl, ⟨n1, n2⟩, by omega, hm, fun H6 s6 => ⟨_, rfl, iteF ⟨_, rfl, p5.mono s6⟩⟩⟩
        · rw [decide_eq_false e]
          exact iteF (iteF ⟨_, rfl, p5⟩)
      rintro σ' H6 ⟨tv, rfl, p6⟩
      refine ⟨_, rfl, _, _, rfl, rfl, _, rfl, ?_⟩
      by_cases e : (6 : Int) ≤ (n : Int)
      · rw [decide_eq_true e]
        have q0 : 0 < (n : Int) - 5 := by omega
        obtain ⟨g0, g1⟩ := mod_range fr q0
        obtain ⟨f, ef⟩ : ∃ f : Nat, 2 + fr.fmod ((n : Int) - 5) = ((f + 1 : Nat) : Int) := ⟨(1 + fr.fmod ((n : Int) - 5)).toNat, by omega⟩
        obtain ⟨b, rfl⟩ : ∃ b : Nat, n = f + b + 4 := ⟨n - f - 4, by omega⟩
        refine iteT ⟨_, rfl, _, rfl, .inl ⟨_, rfl, _, rfl, _, _, rfl, rfl, _, _, rfl, rfl, by omega, _, _, rfl, rfl, _, rfl, f, b, m, ?_, ⟨n1, n2⟩, by omega, by omega, hm, fun H7 s7 => ⟨_, rfl, iteF ⟨_, _, _, _, rfl, p6.mono s7⟩⟩⟩⟩
        dsimp only
        rw [ef]
        rfl
      · rw [decide_eq_false e]
        exact iteF (iteF ⟨_, _, _, _, rfl, p6⟩)
    · rintro σ' H1 ⟨x, y, z, t, rfl, p1⟩
      exact k H1
end
end Hc


set_option Elab.async false
set_option linter.all false
set_option maxRecDepth 100000
set_option maxHeartbeats 4000000
set_option autoImplicit false
namespace Hc
open PySem L2
/-- an error of the class at S is what «except S» names -/
theorem exm_self {K : PySem.W.Frag} {S : Addr} (h1 : PySem.W.subIn K (.ref S) (.type "BaseException") = some true) (h2 : PySem.W.isClsIn K S = true) (h3 : PySem.W.typeIn K (.ref S) = some (.type "type")) (h4 : PySem.W.subIn K (.ref S) (.ref S) = some true) :
    PySem.W.exmOne K (.ref S) (.ref S) = some true := by
  have e1 : (PySem.W.subIn K (.ref S) (.type "BaseException") == some true) = true := by rw [h1] <;> rfl
  have e2 : ((PySem.W.clsIn K S).isSome && PySem.W.typeIn K (.ref S) == some (.type "type")) = true := by
    have h2' : (PySem.W.clsIn K S).isSome = true := h2
    rw [h2', h3] <;> rfl
  show (if (PySem.W.subIn K (.ref S) (.type "BaseException") == some true) = true then (if ((PySem.W.clsIn K S).isSome && PySem.W.typeIn K (.ref S) == some (.type "type")) = true then PySem.W.subIn K (.ref S) (.ref S) else none) else none) = some true
  rw [if_pos e1, if_pos e2]
  exact h4
/-- an error of one class is not what «except» of another names -/
theorem exm_two {K : PySem.W.Frag} {S R : Addr} (h1 : PySem.W.subIn K (.ref R) (.type "BaseException") = some true) (h2 : PySem.W.isClsIn K R = true) (h3 : PySem.W.typeIn K (.ref R) = some (.type "type")) {b : Bool} (h4 : PySem.W.subIn K (.ref S) (.ref R) = some b) :
    PySem.W.exmOne K (.ref S) (.ref R) = some b := by
  have e1 : (PySem.W.subIn K (.ref R) (.type "BaseException") == some true) = true := by rw [h1] <;> rfl
  have e2 : ((PySem.W.clsIn K R).isSome && PySem.W.typeIn K (.ref R) == some (.type "type")) = true := by
    have h2' : (PySem.W.clsIn K R).isSome = true := h2
    rw [h2', h3] <;> rfl
  show (if (PySem.W.subIn K (.ref R) (.type "BaseException") == some true) = true then (if ((PySem.W.clsIn K R).isSome && PySem.W.typeIn K (.ref R) == some (.type "type")) = true then PySem.W.subIn K (.ref S) (.ref R) else none) else none) = some b
  rw [if_pos e1, if_pos e2]
  exact h4
theorem tx_mk {K : PySem.W.Frag} {h : Heap} {mg : Str → Option Value} (X : K.In h) (G : h.Ns mainGlobals mg)
    {fisqinteger : Addr} {odisqinteger anisqinteger : Option Addr} {slisqinteger : Array (Option Value)} {ocisqinteger kVisqinteger dcisqinteger pmisqinteger cdisqinteger ctisqinteger : Value}
    {fisqbetween : Addr} {odisqbetween anisqbetween : Option Addr} {slisqbetween : Array (Option Value)} {ocisqbetween kVisqbetween dcisqbetween pmisqbetween cdisqbetween ctisqbetween : Value}
    {fcheckqnumber : Addr} {odcheckqnumber ancheckqnumber : Option Addr} {slcheckqnumber : Array (Option Value)} {occheckqnumber kVcheckqnumber dccheckqnumber pmcheckqnumber cdcheckqnumber ctcheckqnumber : Value}
    {flineqlots : Addr} {odlineqlots anlineqlots : Option Addr} {sllineqlots : Array (Option Value)} {oclineqlots kVlineqlots dclineqlots pmlineqlots cdlineqlots ctlineqlots : Value}
    {fringqlots : Addr} {odringqlots anringqlots : Option Addr} {slringqlots : Array (Option Value)} {ocringqlots kVringqlots dcringqlots pmringqlots cdringqlots ctringqlots : Value}
    {fstepqpower : Addr} {odstepqpower anstepqpower : Option Addr} {slstepqpower : Array (Option Value)} {ocstepqpower kVstepqpower dcstepqpower pmstepqpower cdstepqpower ctstepqpower : Value}
    {ftimesqmatrix : Addr} {odtimesqmatrix antimesqmatrix : Option Addr} {sltimesqmatrix : Array (Option Value)} {octimesqmatrix kVtimesqmatrix dctimesqmatrix pmtimesqmatrix cdtimesqmatrix cttimesqmatrix : Value}
    {flineqleast : Addr} {odlineqleast anlineqleast : Option Addr} {sllineqleast : Array (Option Value)} {oclineqleast kVlineqleast dclineqleast pmlineqleast cdlineqleast ctlineqleast : Value}
    {fringqleast : Addr} {odringqleast anringqleast : Option Addr} {slringqleast : Array (Option Value)} {ocringqleast kVringqleast dcringqleast pmringqleast cdringqleast ctringqleast : Value}
    {fqlawqhand : Addr} {odqlawqhand anqlawqhand : Option Addr} {slqlawqhand : Array (Option Value)} {ocqlawqhand kVqlawqhand dcqlawqhand pmqlawqhand cdqlawqhand ctqlawqhand : Value}
    {fqlawqdraw : Addr} {odqlawqdraw anqlawqdraw : Option Addr} {slqlawqdraw : Array (Option Value)} {ocqlawqdraw kVqlawqdraw dcqlawqdraw pmqlawqdraw cdqlawqdraw ctqlawqdraw : Value}
    {fqlawqisqinteger : Addr} {odqlawqisqinteger anqlawqisqinteger : Option Addr} {slqlawqisqinteger : Array (Option Value)} {ocqlawqisqinteger kVqlawqisqinteger dcqlawqisqinteger pmqlawqisqinteger cdqlawqisqinteger ctqlawqisqinteger : Value}
    {fqlawqnumber : Addr} {odqlawqnumber anqlawqnumber : Option Addr} {slqlawqnumber : Array (Option Value)} {ocqlawqnumber kVqlawqnumber dcqlawqnumber pmqlawqnumber cdqlawqnumber ctqlawqnumber : Value}
    {fqlawqroads : Addr} {odqlawqroads anqlawqroads : Option Addr} {slqlawqroads : Array (Option Value)} {ocqlawqroads kVqlawqroads dcqlawqroads pmqlawqroads cdqlawqroads ctqlawqroads : Value}
    {fqlawqmodulus : Addr} {odqlawqmodulus anqlawqmodulus : Option Addr} {slqlawqmodulus : Array (Option Value)} {ocqlawqmodulus kVqlawqmodulus dcqlawqmodulus pmqlawqmodulus cdqlawqmodulus ctqlawqmodulus : Value}
    {fqlawqdoubled : Addr} {odqlawqdoubled anqlawqdoubled : Option Addr} {slqlawqdoubled : Array (Option Value)} {ocqlawqdoubled kVqlawqdoubled dcqlawqdoubled pmqlawqdoubled cdqlawqdoubled ctqlawqdoubled : Value}
    {fqlawqways : Addr} {odqlawqways anqlawqways : Option Addr} {slqlawqways : Array (Option Value)} {ocqlawqways kVqlawqways dcqlawqways pmqlawqways cdqlawqways ctqlawqways : Value}
    {fqlawqcounts : Addr} {odqlawqcounts anqlawqcounts : Option Addr} {slqlawqcounts : Array (Option Value)} {ocqlawqcounts kVqlawqcounts dcqlawqcounts pmqlawqcounts cdqlawqcounts ctqlawqcounts : Value}
    {fqlawqleast : Addr} {odqlawqleast anqlawqleast : Option Addr} {slqlawqleast : Array (Option Value)} {ocqlawqleast kVqlawqleast dcqlawqleast pmqlawqleast cdqlawqleast ctqlawqleast : Value}
    {fqlawqringsqbyqlines : Addr} {odqlawqringsqbyqlines anqlawqringsqbyqlines : Option Addr} {slqlawqringsqbyqlines : Array (Option Value)} {ocqlawqringsqbyqlines kVqlawqringsqbyqlines dcqlawqringsqbyqlines pmqlawqringsqbyqlines cdqlawqringsqbyqlines ctqlawqringsqbyqlines : Value}
    {fqlawqcut : Addr} {odqlawqcut anqlawqcut : Option Addr} {slqlawqcut : Array (Option Value)} {ocqlawqcut kVqlawqcut dcqlawqcut pmqlawqcut cdqlawqcut ctqlawqcut : Value}
    {flaw : Addr} {odlaw anlaw : Option Addr} {sllaw : Array (Option Value)} {oclaw kVlaw dclaw pmlaw cdlaw ctlaw : Value}
    {tGREATEST : Tok}
    {tLEASTqLINE : Tok}
    {tLEASTqRING : Tok}
    {SSTEP : Addr} {ddSTEP : Option Addr} {nSTEP : Nat} {slSTEP : Array (Option Value)}
    {SSTEP0 : Addr} {ddSTEP0 : Option Addr} {nSTEP0 : Nat} {slSTEP0 : Array (Option Value)} {tSTEP00 tSTEP01 tSTEP02 : Tok}
    {SSTEP1 : Addr} {ddSTEP1 : Option Addr} {nSTEP1 : Nat} {slSTEP1 : Array (Option Value)} {tSTEP10 tSTEP11 tSTEP12 : Tok}
    {SSTEP2 : Addr} {ddSTEP2 : Option Addr} {nSTEP2 : Nat} {slSTEP2 : Array (Option Value)} {tSTEP20 tSTEP21 tSTEP22 : Tok}
    {CXNoNumber fXNoNumber : Addr} {odXNoNumber anXNoNumber : Option Addr} {slXNoNumber : Array (Option Value)} {ocXNoNumber kVXNoNumber dcXNoNumber pmXNoNumber cdXNoNumber ctXNoNumber : Value} {nmXNoNumber qnXNoNumber : Str} {NXNoNumber : Addr} {bsXNoNumber bmXNoNumber : List Value} {snXNoNumber : List Str} {subXNoNumber : List Value} {abXNoNumber : Bool} {colXNoNumber : Option Bool} {ddXNoNumber : Option Addr} {m0XNoNumber m1XNoNumber m2XNoNumber m3XNoNumber m5XNoNumber : Option Value}
    (aisqinteger : PySem.W.nsIn K mainGlobals "is_integer" = some (some (.ref fisqinteger)))
    (lisqinteger : K.lookup fisqinteger = some ⟨ocisqinteger, odisqinteger, .func (PySem.W.fnOf "is_integer" "is_integer" (defArgs s_is_integer) (defBody s_is_integer) (defScope s_is_integer) .none kVisqinteger dcisqinteger pmisqinteger anisqinteger cdisqinteger ctisqinteger), slisqinteger⟩)
    (cisqinteger : PySem.W.codeIn K cdisqinteger "is_integer" = true)
    (kisqinteger : PySem.W.keepIn K (.ref fisqinteger) = true)
    (aisqbetween : PySem.W.nsIn K mainGlobals "is_between" = some (some (.ref fisqbetween)))
    (lisqbetween : K.lookup fisqbetween = some ⟨ocisqbetween, odisqbetween, .func (PySem.W.fnOf "is_between" "is_between" (defArgs s_is_between) (defBody s_is_between) (defScope s_is_between) .none kVisqbetween dcisqbetween pmisqbetween anisqbetween cdisqbetween ctisqbetween), slisqbetween⟩)
    (cisqbetween : PySem.W.codeIn K cdisqbetween "is_between" = true)
    (kisqbetween : PySem.W.keepIn K (.ref fisqbetween) = true)
    (acheckqnumber : PySem.W.nsIn K mainGlobals "check_number" = some (some (.ref fcheckqnumber)))
    (lcheckqnumber : K.lookup fcheckqnumber = some ⟨occheckqnumber, odcheckqnumber, .func (PySem.W.fnOf "check_number" "check_number" (defArgs s_check_number) (defBody s_check_number) (defScope s_check_number) .none kVcheckqnumber dccheckqnumber pmcheckqnumber ancheckqnumber cdcheckqnumber ctcheckqnumber), slcheckqnumber⟩)
    (ccheckqnumber : PySem.W.codeIn K cdcheckqnumber "check_number" = true)
    (kcheckqnumber : PySem.W.keepIn K (.ref fcheckqnumber) = true)
    (alineqlots : PySem.W.nsIn K mainGlobals "line_lots" = some (some (.ref flineqlots)))
    (llineqlots : K.lookup flineqlots = some ⟨oclineqlots, odlineqlots, .func (PySem.W.fnOf "line_lots" "line_lots" (defArgs s_line_lots) (defBody s_line_lots) (defScope s_line_lots) .none kVlineqlots dclineqlots pmlineqlots anlineqlots cdlineqlots ctlineqlots), sllineqlots⟩)
    (clineqlots : PySem.W.codeIn K cdlineqlots "line_lots" = true)
    (klineqlots : PySem.W.keepIn K (.ref flineqlots) = true)
    (aringqlots : PySem.W.nsIn K mainGlobals "ring_lots" = some (some (.ref fringqlots)))
    (lringqlots : K.lookup fringqlots = some ⟨ocringqlots, odringqlots, .func (PySem.W.fnOf "ring_lots" "ring_lots" (defArgs s_ring_lots) (defBody s_ring_lots) (defScope s_ring_lots) .none kVringqlots dcringqlots pmringqlots anringqlots cdringqlots ctringqlots), slringqlots⟩)
    (cringqlots : PySem.W.codeIn K cdringqlots "ring_lots" = true)
    (kringqlots : PySem.W.keepIn K (.ref fringqlots) = true)
    (astepqpower : PySem.W.nsIn K mainGlobals "step_power" = some (some (.ref fstepqpower)))
    (lstepqpower : K.lookup fstepqpower = some ⟨ocstepqpower, odstepqpower, .func (PySem.W.fnOf "step_power" "step_power" (defArgs s_step_power) (defBody s_step_power) (defScope s_step_power) .none kVstepqpower dcstepqpower pmstepqpower anstepqpower cdstepqpower ctstepqpower), slstepqpower⟩)
    (cstepqpower : PySem.W.codeIn K cdstepqpower "step_power" = true)
    (kstepqpower : PySem.W.keepIn K (.ref fstepqpower) = true)
    (atimesqmatrix : PySem.W.nsIn K mainGlobals "times_matrix" = some (some (.ref ftimesqmatrix)))
    (ltimesqmatrix : K.lookup ftimesqmatrix = some ⟨octimesqmatrix, odtimesqmatrix, .func (PySem.W.fnOf "times_matrix" "times_matrix" (defArgs s_times_matrix) (defBody s_times_matrix) (defScope s_times_matrix) .none kVtimesqmatrix dctimesqmatrix pmtimesqmatrix antimesqmatrix cdtimesqmatrix cttimesqmatrix), sltimesqmatrix⟩)
    (ctimesqmatrix : PySem.W.codeIn K cdtimesqmatrix "times_matrix" = true)
    (ktimesqmatrix : PySem.W.keepIn K (.ref ftimesqmatrix) = true)
    (alineqleast : PySem.W.nsIn K mainGlobals "line_least" = some (some (.ref flineqleast)))
    (llineqleast : K.lookup flineqleast = some ⟨oclineqleast, odlineqleast, .func (PySem.W.fnOf "line_least" "line_least" (defArgs s_line_least) (defBody s_line_least) (defScope s_line_least) .none kVlineqleast dclineqleast pmlineqleast anlineqleast cdlineqleast ctlineqleast), sllineqleast⟩)
    (clineqleast : PySem.W.codeIn K cdlineqleast "line_least" = true)
    (klineqleast : PySem.W.keepIn K (.ref flineqleast) = true)
    (aringqleast : PySem.W.nsIn K mainGlobals "ring_least" = some (some (.ref fringqleast)))
    (lringqleast : K.lookup fringqleast = some ⟨ocringqleast, odringqleast, .func (PySem.W.fnOf "ring_least" "ring_least" (defArgs s_ring_least) (defBody s_ring_least) (defScope s_ring_least) .none kVringqleast dcringqleast pmringqleast anringqleast cdringqleast ctringqleast), slringqleast⟩)
    (cringqleast : PySem.W.codeIn K cdringqleast "ring_least" = true)
    (kringqleast : PySem.W.keepIn K (.ref fringqleast) = true)
    (aqlawqhand : PySem.W.nsIn K mainGlobals "_law_hand" = some (some (.ref fqlawqhand)))
    (lqlawqhand : K.lookup fqlawqhand = some ⟨ocqlawqhand, odqlawqhand, .func (PySem.W.fnOf "_law_hand" "_law_hand" (defArgs s_law_hand) (defBody s_law_hand) (defScope s_law_hand) .none kVqlawqhand dcqlawqhand pmqlawqhand anqlawqhand cdqlawqhand ctqlawqhand), slqlawqhand⟩)
    (cqlawqhand : PySem.W.codeIn K cdqlawqhand "_law_hand" = true)
    (kqlawqhand : PySem.W.keepIn K (.ref fqlawqhand) = true)
    (aqlawqdraw : PySem.W.nsIn K mainGlobals "_law_draw" = some (some (.ref fqlawqdraw)))
    (lqlawqdraw : K.lookup fqlawqdraw = some ⟨ocqlawqdraw, odqlawqdraw, .func (PySem.W.fnOf "_law_draw" "_law_draw" (defArgs s_law_draw) (defBody s_law_draw) (defScope s_law_draw) .none kVqlawqdraw dcqlawqdraw pmqlawqdraw anqlawqdraw cdqlawqdraw ctqlawqdraw), slqlawqdraw⟩)
    (cqlawqdraw : PySem.W.codeIn K cdqlawqdraw "_law_draw" = true)
    (kqlawqdraw : PySem.W.keepIn K (.ref fqlawqdraw) = true)
    (aqlawqisqinteger : PySem.W.nsIn K mainGlobals "_law_is_integer" = some (some (.ref fqlawqisqinteger)))
    (lqlawqisqinteger : K.lookup fqlawqisqinteger = some ⟨ocqlawqisqinteger, odqlawqisqinteger, .func (PySem.W.fnOf "_law_is_integer" "_law_is_integer" (defArgs s_law_is_integer) (defBody s_law_is_integer) (defScope s_law_is_integer) .none kVqlawqisqinteger dcqlawqisqinteger pmqlawqisqinteger anqlawqisqinteger cdqlawqisqinteger ctqlawqisqinteger), slqlawqisqinteger⟩)
    (cqlawqisqinteger : PySem.W.codeIn K cdqlawqisqinteger "_law_is_integer" = true)
    (kqlawqisqinteger : PySem.W.keepIn K (.ref fqlawqisqinteger) = true)
    (aqlawqnumber : PySem.W.nsIn K mainGlobals "_law_number" = some (some (.ref fqlawqnumber)))
    (lqlawqnumber : K.lookup fqlawqnumber = some ⟨ocqlawqnumber, odqlawqnumber, .func (PySem.W.fnOf "_law_number" "_law_number" (defArgs s_law_number) (defBody s_law_number) (defScope s_law_number) .none kVqlawqnumber dcqlawqnumber pmqlawqnumber anqlawqnumber cdqlawqnumber ctqlawqnumber), slqlawqnumber⟩)
    (cqlawqnumber : PySem.W.codeIn K cdqlawqnumber "_law_number" = true)
    (kqlawqnumber : PySem.W.keepIn K (.ref fqlawqnumber) = true)
    (aqlawqroads : PySem.W.nsIn K mainGlobals "_law_roads" = some (some (.ref fqlawqroads)))
    (lqlawqroads : K.lookup fqlawqroads = some ⟨ocqlawqroads, odqlawqroads, .func (PySem.W.fnOf "_law_roads" "_law_roads" (defArgs s_law_roads) (defBody s_law_roads) (defScope s_law_roads) .none kVqlawqroads dcqlawqroads pmqlawqroads anqlawqroads cdqlawqroads ctqlawqroads), slqlawqroads⟩)
    (cqlawqroads : PySem.W.codeIn K cdqlawqroads "_law_roads" = true)
    (kqlawqroads : PySem.W.keepIn K (.ref fqlawqroads) = true)
    (aqlawqmodulus : PySem.W.nsIn K mainGlobals "_law_modulus" = some (some (.ref fqlawqmodulus)))
    (lqlawqmodulus : K.lookup fqlawqmodulus = some ⟨ocqlawqmodulus, odqlawqmodulus, .func (PySem.W.fnOf "_law_modulus" "_law_modulus" (defArgs s_law_modulus) (defBody s_law_modulus) (defScope s_law_modulus) .none kVqlawqmodulus dcqlawqmodulus pmqlawqmodulus anqlawqmodulus cdqlawqmodulus ctqlawqmodulus), slqlawqmodulus⟩)
    (cqlawqmodulus : PySem.W.codeIn K cdqlawqmodulus "_law_modulus" = true)
    (kqlawqmodulus : PySem.W.keepIn K (.ref fqlawqmodulus) = true)
    (aqlawqdoubled : PySem.W.nsIn K mainGlobals "_law_doubled" = some (some (.ref fqlawqdoubled)))
    (lqlawqdoubled : K.lookup fqlawqdoubled = some ⟨ocqlawqdoubled, odqlawqdoubled, .func (PySem.W.fnOf "_law_doubled" "_law_doubled" (defArgs s_law_doubled) (defBody s_law_doubled) (defScope s_law_doubled) .none kVqlawqdoubled dcqlawqdoubled pmqlawqdoubled anqlawqdoubled cdqlawqdoubled ctqlawqdoubled), slqlawqdoubled⟩)
    (cqlawqdoubled : PySem.W.codeIn K cdqlawqdoubled "_law_doubled" = true)
    (kqlawqdoubled : PySem.W.keepIn K (.ref fqlawqdoubled) = true)
    (aqlawqways : PySem.W.nsIn K mainGlobals "_law_ways" = some (some (.ref fqlawqways)))
    (lqlawqways : K.lookup fqlawqways = some ⟨ocqlawqways, odqlawqways, .func (PySem.W.fnOf "_law_ways" "_law_ways" (defArgs s_law_ways) (defBody s_law_ways) (defScope s_law_ways) .none kVqlawqways dcqlawqways pmqlawqways anqlawqways cdqlawqways ctqlawqways), slqlawqways⟩)
    (cqlawqways : PySem.W.codeIn K cdqlawqways "_law_ways" = true)
    (kqlawqways : PySem.W.keepIn K (.ref fqlawqways) = true)
    (aqlawqcounts : PySem.W.nsIn K mainGlobals "_law_counts" = some (some (.ref fqlawqcounts)))
    (lqlawqcounts : K.lookup fqlawqcounts = some ⟨ocqlawqcounts, odqlawqcounts, .func (PySem.W.fnOf "_law_counts" "_law_counts" (defArgs s_law_counts) (defBody s_law_counts) (defScope s_law_counts) .none kVqlawqcounts dcqlawqcounts pmqlawqcounts anqlawqcounts cdqlawqcounts ctqlawqcounts), slqlawqcounts⟩)
    (cqlawqcounts : PySem.W.codeIn K cdqlawqcounts "_law_counts" = true)
    (kqlawqcounts : PySem.W.keepIn K (.ref fqlawqcounts) = true)
    (aqlawqleast : PySem.W.nsIn K mainGlobals "_law_least" = some (some (.ref fqlawqleast)))
    (lqlawqleast : K.lookup fqlawqleast = some ⟨ocqlawqleast, odqlawqleast, .func (PySem.W.fnOf "_law_least" "_law_least" (defArgs s_law_least) (defBody s_law_least) (defScope s_law_least) .none kVqlawqleast dcqlawqleast pmqlawqleast anqlawqleast cdqlawqleast ctqlawqleast), slqlawqleast⟩)
    (cqlawqleast : PySem.W.codeIn K cdqlawqleast "_law_least" = true)
    (kqlawqleast : PySem.W.keepIn K (.ref fqlawqleast) = true)
    (aqlawqringsqbyqlines : PySem.W.nsIn K mainGlobals "_law_rings_by_lines" = some (some (.ref fqlawqringsqbyqlines)))
    (lqlawqringsqbyqlines : K.lookup fqlawqringsqbyqlines = some ⟨ocqlawqringsqbyqlines, odqlawqringsqbyqlines, .func (PySem.W.fnOf "_law_rings_by_lines" "_law_rings_by_lines" (defArgs s_law_rings_by_lines) (defBody s_law_rings_by_lines) (defScope s_law_rings_by_lines) .none kVqlawqringsqbyqlines dcqlawqringsqbyqlines pmqlawqringsqbyqlines anqlawqringsqbyqlines cdqlawqringsqbyqlines ctqlawqringsqbyqlines), slqlawqringsqbyqlines⟩)
    (cqlawqringsqbyqlines : PySem.W.codeIn K cdqlawqringsqbyqlines "_law_rings_by_lines" = true)
    (kqlawqringsqbyqlines : PySem.W.keepIn K (.ref fqlawqringsqbyqlines) = true)
    (aqlawqcut : PySem.W.nsIn K mainGlobals "_law_cut" = some (some (.ref fqlawqcut)))
    (lqlawqcut : K.lookup fqlawqcut = some ⟨ocqlawqcut, odqlawqcut, .func (PySem.W.fnOf "_law_cut" "_law_cut" (defArgs s_law_cut) (defBody s_law_cut) (defScope s_law_cut) .none kVqlawqcut dcqlawqcut pmqlawqcut anqlawqcut cdqlawqcut ctqlawqcut), slqlawqcut⟩)
    (cqlawqcut : PySem.W.codeIn K cdqlawqcut "_law_cut" = true)
    (kqlawqcut : PySem.W.keepIn K (.ref fqlawqcut) = true)
    (alaw : PySem.W.nsIn K mainGlobals "law" = some (some (.ref flaw)))
    (llaw : K.lookup flaw = some ⟨oclaw, odlaw, .func (PySem.W.fnOf "law" "law" (defArgs s_law) (defBody s_law) (defScope s_law) .none kVlaw dclaw pmlaw anlaw cdlaw ctlaw), sllaw⟩)
    (claw : PySem.W.codeIn K cdlaw "law" = true)
    (klaw : PySem.W.keepIn K (.ref flaw) = true)
    (aGREATEST : PySem.W.nsIn K mainGlobals "GREATEST" = some (some (.int 1000000000000000000000000000000 tGREATEST)))
    (aLEASTqLINE : PySem.W.nsIn K mainGlobals "LEAST_LINE" = some (some (.int 1 tLEASTqLINE)))
    (aLEASTqRING : PySem.W.nsIn K mainGlobals "LEAST_RING" = some (some (.int 2 tLEASTqRING)))
    (aSTEP : PySem.W.nsIn K mainGlobals "STEP" = some (some (.ref SSTEP)))
    (lSTEP : K.lookup SSTEP = some ⟨.type "tuple", ddSTEP, .seq #[.ref SSTEP0, .ref SSTEP1, .ref SSTEP2] nSTEP, slSTEP⟩)
    (lSTEP0 : K.lookup SSTEP0 = some ⟨.type "tuple", ddSTEP0, .seq #[.int 1 tSTEP00, .int 1 tSTEP01, .int 0 tSTEP02] nSTEP0, slSTEP0⟩)
    (lSTEP1 : K.lookup SSTEP1 = some ⟨.type "tuple", ddSTEP1, .seq #[.int 1 tSTEP10, .int 0 tSTEP11, .int 1 tSTEP12] nSTEP1, slSTEP1⟩)
    (lSTEP2 : K.lookup SSTEP2 = some ⟨.type "tuple", ddSTEP2, .seq #[.int 1 tSTEP20, .int 0 tSTEP21, .int 0 tSTEP22] nSTEP2, slSTEP2⟩)
    (aXNoNumber : PySem.W.nsIn K mainGlobals "NoNumber" = some (some (.ref CXNoNumber)))
    (xXNoNumber : K.lookup CXNoNumber = some (excClassObj nmXNoNumber qnXNoNumber CXNoNumber NXNoNumber bsXNoNumber bmXNoNumber true snXNoNumber subXNoNumber abXNoNumber colXNoNumber ddXNoNumber m0XNoNumber m1XNoNumber m2XNoNumber m3XNoNumber m5XNoNumber "ValueError.__new__"))
    (bmXNoNumbero : PySem.HandSPX.refsVE bmXNoNumber = true)
    (saXNoNumber : PySem.W.findIn K (.ref CXNoNumber) "__setattr__" = some (some (.builtin "object.__setattr__")))
    (gaXNoNumber : PySem.W.findIn K (.ref CXNoNumber) "__getattribute__" = some (some (.builtin "BaseException.__getattribute__")))
    (ggXNoNumber : PySem.W.findIn K (.ref CXNoNumber) "__getattr__" = some none)
    (iXNoNumber : PySem.W.findIn K (.ref CXNoNumber) "__init__" = some (some (.ref fXNoNumber)))
    (yXNoNumber : PySem.W.typeIn K (.ref fXNoNumber) = some (.type "function"))
    (lXNoNumber : K.lookup fXNoNumber = some ⟨ocXNoNumber, odXNoNumber, .func (PySem.W.fnOf "__init__" "NoNumber.__init__" (defArgs s_NoNumber___init) (defBody s_NoNumber___init) (defScope s_NoNumber___init) .none kVXNoNumber dcXNoNumber pmXNoNumber anXNoNumber cdXNoNumber ctXNoNumber), slXNoNumber⟩)
    (cXNoNumber : PySem.W.codeIn K cdXNoNumber "NoNumber.__init__" = true)
    (kXNoNumber : PySem.W.keepIn K (.ref fXNoNumber) = true)
    (kcXNoNumber : PySem.W.keepIn K (.ref CXNoNumber) = true)
    (exXNoNumber : PySem.W.subIn K (.ref CXNoNumber) (.type "BaseException") = some true)
    (tyXNoNumber : PySem.W.typeIn K (.ref CXNoNumber) = some (.type "type"))
    (hdXNoNumber : PySem.W.hasDictIn K CXNoNumber = true)
    (icXNoNumber : PySem.W.isClsIn K CXNoNumber = true)
    (suXNoNumber : PySem.W.subIn K (.ref CXNoNumber) (.ref CXNoNumber) = some true)
    (anqisinstance : PySem.W.nsIn K mainGlobals "isinstance" = some none)
    (anqint : PySem.W.nsIn K mainGlobals "int" = some none)
    (anqbool : PySem.W.nsIn K mainGlobals "bool" = some none)
    (anqtuple : PySem.W.nsIn K mainGlobals "tuple" = some none)
    (anqlist : PySem.W.nsIn K mainGlobals "list" = some none)
    (anqlen : PySem.W.nsIn K mainGlobals "len" = some none)
    (anqabs : PySem.W.nsIn K mainGlobals "abs" = some none)
    (anqrange : PySem.W.nsIn K mainGlobals "range" = some none)
    (anqzip : PySem.W.nsIn K mainGlobals "zip" = some none)
    (anqsum : PySem.W.nsIn K mainGlobals "sum" = some none)
    (anqreversed : PySem.W.nsIn K mainGlobals "reversed" = some none) :
    ∃ T : Tx K mg, ∀ (s : Shared) (v : Value), BindsTo s T.law.fd ⟨[v], []⟩ [("_law_script", v)] := by
  refine ⟨{
    is_integer := ⟨fisqinteger, _, fun_mk (st := s_is_integer) lisqinteger cisqinteger kisqinteger, PySem.W.mg_of X G aisqinteger, (fun_mk (st := s_is_integer) lisqinteger cisqinteger kisqinteger).binds (fun _ _ _ _ _ _ us hl => match us, hl with | [_], _ => rfl)⟩
    is_between := ⟨fisqbetween, _, fun_mk (st := s_is_between) lisqbetween cisqbetween kisqbetween, PySem.W.mg_of X G aisqbetween, (fun_mk (st := s_is_between) lisqbetween cisqbetween kisqbetween).binds (fun _ _ _ _ _ _ us hl => match us, hl with | [_, _, _], _ => rfl)⟩
    check_number := ⟨fcheckqnumber, _, fun_mk (st := s_check_number) lcheckqnumber ccheckqnumber kcheckqnumber, PySem.W.mg_of X G acheckqnumber, (fun_mk (st := s_check_number) lcheckqnumber ccheckqnumber kcheckqnumber).binds (fun _ _ _ _ _ _ us hl => match us, hl with | [_, _, _], _ => rfl)⟩
    line_lots := ⟨flineqlots, _, fun_mk (st := s_line_lots) llineqlots clineqlots klineqlots, PySem.W.mg_of X G alineqlots, (fun_mk (st := s_line_lots) llineqlots clineqlots klineqlots).binds (fun _ _ _ _ _ _ us hl => match us, hl with | [_, _], _ => rfl)⟩
    ring_lots := ⟨fringqlots, _, fun_mk (st := s_ring_lots) lringqlots cringqlots kringqlots, PySem.W.mg_of X G aringqlots, (fun_mk (st := s_ring_lots) lringqlots cringqlots kringqlots).binds (fun _ _ _ _ _ _ us hl => match us, hl with | [_, _], _ => rfl)⟩
    step_power := ⟨fstepqpower, _, fun_mk (st := s_step_power) lstepqpower cstepqpower kstepqpower, PySem.W.mg_of X G astepqpower, (fun_mk (st := s_step_power) lstepqpower cstepqpower kstepqpower).binds (fun _ _ _ _ _ _ us hl => match us, hl with | [_, _], _ => rfl)⟩
    times_matrix := ⟨ftimesqmatrix, _, fun_mk (st := s_times_matrix) ltimesqmatrix ctimesqmatrix ktimesqmatrix, PySem.W.mg_of X G atimesqmatrix, (fun_mk (st := s_times_matrix) ltimesqmatrix ctimesqmatrix ktimesqmatrix).binds (fun _ _ _ _ _ _ us hl => match us, hl with | [_, _, _], _ => rfl)⟩
    line_least := ⟨flineqleast, _, fun_mk (st := s_line_least) llineqleast clineqleast klineqleast, PySem.W.mg_of X G alineqleast, (fun_mk (st := s_line_least) llineqleast clineqleast klineqleast).binds (fun _ _ _ _ _ _ us hl => match us, hl with | [_], _ => rfl)⟩
    ring_least := ⟨fringqleast, _, fun_mk (st := s_ring_least) lringqleast cringqleast kringqleast, PySem.W.mg_of X G aringqleast, (fun_mk (st := s_ring_least) lringqleast cringqleast kringqleast).binds (fun _ _ _ _ _ _ us hl => match us, hl with | [_], _ => rfl)⟩
    _law_hand := ⟨fqlawqhand, _, fun_mk (st := s_law_hand) lqlawqhand cqlawqhand kqlawqhand, PySem.W.mg_of X G aqlawqhand, (fun_mk (st := s_law_hand) lqlawqhand cqlawqhand kqlawqhand).binds (fun _ _ _ _ _ _ us hl => match us, hl with | [_], _ => rfl)⟩
    _law_draw := ⟨fqlawqdraw, _, fun_mk (st := s_law_draw) lqlawqdraw cqlawqdraw kqlawqdraw, PySem.W.mg_of X G aqlawqdraw, (fun_mk (st := s_law_draw) lqlawqdraw cqlawqdraw kqlawqdraw).binds (fun _ _ _ _ _ _ us hl => match us, hl with | [_, _], _ => rfl)⟩
    _law_is_integer := ⟨fqlawqisqinteger, _, fun_mk (st := s_law_is_integer) lqlawqisqinteger cqlawqisqinteger kqlawqisqinteger, PySem.W.mg_of X G aqlawqisqinteger, (fun_mk (st := s_law_is_integer) lqlawqisqinteger cqlawqisqinteger kqlawqisqinteger).binds (fun _ _ _ _ _ _ us hl => match us, hl with | [_], _ => rfl)⟩
    _law_number := ⟨fqlawqnumber, _, fun_mk (st := s_law_number) lqlawqnumber cqlawqnumber kqlawqnumber, PySem.W.mg_of X G aqlawqnumber, (fun_mk (st := s_law_number) lqlawqnumber cqlawqnumber kqlawqnumber).binds (fun _ _ _ _ _ _ us hl => match us, hl with | [_, _], _ => rfl)⟩
    _law_roads := ⟨fqlawqroads, _, fun_mk (st := s_law_roads) lqlawqroads cqlawqroads kqlawqroads, PySem.W.mg_of X G aqlawqroads, (fun_mk (st := s_law_roads) lqlawqroads cqlawqroads kqlawqroads).binds (fun _ _ _ _ _ _ us hl => match us, hl with | [_], _ => rfl)⟩
    _law_modulus := ⟨fqlawqmodulus, _, fun_mk (st := s_law_modulus) lqlawqmodulus cqlawqmodulus kqlawqmodulus, PySem.W.mg_of X G aqlawqmodulus, (fun_mk (st := s_law_modulus) lqlawqmodulus cqlawqmodulus kqlawqmodulus).binds (fun _ _ _ _ _ _ us hl => match us, hl with | [_], _ => rfl)⟩
    _law_doubled := ⟨fqlawqdoubled, _, fun_mk (st := s_law_doubled) lqlawqdoubled cqlawqdoubled kqlawqdoubled, PySem.W.mg_of X G aqlawqdoubled, (fun_mk (st := s_law_doubled) lqlawqdoubled cqlawqdoubled kqlawqdoubled).binds (fun _ _ _ _ _ _ us hl => match us, hl with | [_, _], _ => rfl)⟩
    _law_ways := ⟨fqlawqways, _, fun_mk (st := s_law_ways) lqlawqways cqlawqways kqlawqways, PySem.W.mg_of X G aqlawqways, (fun_mk (st := s_law_ways) lqlawqways cqlawqways kqlawqways).binds (fun _ _ _ _ _ _ us hl => match us, hl with | [_, _], _ => rfl)⟩
    _law_counts := ⟨fqlawqcounts, _, fun_mk (st := s_law_counts) lqlawqcounts cqlawqcounts kqlawqcounts, PySem.W.mg_of X G aqlawqcounts, (fun_mk (st := s_law_counts) lqlawqcounts cqlawqcounts kqlawqcounts).binds (fun _ _ _ _ _ _ us hl => match us, hl with | [_, _], _ => rfl)⟩
    _law_least := ⟨fqlawqleast, _, fun_mk (st := s_law_least) lqlawqleast cqlawqleast kqlawqleast, PySem.W.mg_of X G aqlawqleast, (fun_mk (st := s_law_least) lqlawqleast cqlawqleast kqlawqleast).binds (fun _ _ _ _ _ _ us hl => match us, hl with | [_], _ => rfl)⟩
    _law_rings_by_lines := ⟨fqlawqringsqbyqlines, _, fun_mk (st := s_law_rings_by_lines) lqlawqringsqbyqlines cqlawqringsqbyqlines kqlawqringsqbyqlines, PySem.W.mg_of X G aqlawqringsqbyqlines, (fun_mk (st := s_law_rings_by_lines) lqlawqringsqbyqlines cqlawqringsqbyqlines kqlawqringsqbyqlines).binds (fun _ _ _ _ _ _ us hl => match us, hl with | [_, _], _ => rfl)⟩
    _law_cut := ⟨fqlawqcut, _, fun_mk (st := s_law_cut) lqlawqcut cqlawqcut kqlawqcut, PySem.W.mg_of X G aqlawqcut, (fun_mk (st := s_law_cut) lqlawqcut cqlawqcut kqlawqcut).binds (fun _ _ _ _ _ _ us hl => match us, hl with | [_, _, _], _ => rfl)⟩
    law := ⟨flaw, _, fun_mk (st := s_law) llaw claw klaw, PySem.W.mg_of X G alaw, (fun_mk (st := s_law) llaw claw klaw).binds (fun _ _ _ _ _ _ us hl => match us, hl with | [_], _ => rfl)⟩
    c_GREATEST := ⟨_, PySem.W.mg_of X G aGREATEST⟩
    c_LEAST_LINE := ⟨_, PySem.W.mg_of X G aLEASTqLINE⟩
    c_LEAST_RING := ⟨_, PySem.W.mg_of X G aLEASTqRING⟩
    c_STEP := ⟨SSTEP, PySem.W.mg_of X G aSTEP, SSTEP0, SSTEP1, SSTEP2, fun H => ⟨.inr ⟨_, _, _, lSTEP, rfl, rfl, (by show 3 ≤ sizeLine; decide), (.cons rfl (.cons rfl (.cons rfl .nil)))⟩, .inr ⟨_, _, _, lSTEP0, rfl, rfl, (by show 3 ≤ sizeLine; decide), (.cons ⟨_, rfl⟩ (.cons ⟨_, rfl⟩ (.cons ⟨_, rfl⟩ .nil)))⟩, .inr ⟨_, _, _, lSTEP1, rfl, rfl, (by show 3 ≤ sizeLine; decide), (.cons ⟨_, rfl⟩ (.cons ⟨_, rfl⟩ (.cons ⟨_, rfl⟩ .nil)))⟩, .inr ⟨_, _, _, lSTEP2, rfl, rfl, (by show 3 ≤ sizeLine; decide), (.cons ⟨_, rfl⟩ (.cons ⟨_, rfl⟩ (.cons ⟨_, rfl⟩ .nil)))⟩⟩⟩
    x_NoNumber := ⟨CXNoNumber, fXNoNumber, _, fun_mk (st := s_NoNumber___init) lXNoNumber cXNoNumber kXNoNumber, PySem.W.mg_of X G aXNoNumber, (fun_mk (st := s_NoNumber___init) lXNoNumber cXNoNumber kXNoNumber).binds (fun _ _ _ _ _ _ us hl => match us, hl with | [_], _ => rfl), ⟨⟨_, _, _, _, _, _, _, _, _, _, _, _, _, _, _, xXNoNumber, bmXNoNumbero⟩, saXNoNumber, exXNoNumber, tyXNoNumber, kcXNoNumber⟩, iXNoNumber, yXNoNumber, ⟨gaXNoNumber, ggXNoNumber, exXNoNumber, hdXNoNumber⟩, exm_self exXNoNumber icXNoNumber tyXNoNumber suXNoNumber, (fun x hx => nomatch hx)⟩
    n_isinstance := PySem.W.mg_none_of X G anqisinstance
    n_int := PySem.W.mg_none_of X G anqint
    n_bool := PySem.W.mg_none_of X G anqbool
    n_tuple := PySem.W.mg_none_of X G anqtuple
    n_list := PySem.W.mg_none_of X G anqlist
    n_len := PySem.W.mg_none_of X G anqlen
    n_abs := PySem.W.mg_none_of X G anqabs
    n_range := PySem.W.mg_none_of X G anqrange
    n_zip := PySem.W.mg_none_of X G anqzip
    n_sum := PySem.W.mg_none_of X G anqsum
    n_reversed := PySem.W.mg_none_of X G anqreversed
  }, fun s v => .of_eq rfl⟩

theorem fin {l : PySem.W.OpenLaw} {w : World} {K : PySem.W.Frag} {mg : Str → Option Value} {fa : Addr} (hfa : mg "law" = some (.ref fa)) (h : ∃ T : Tx K mg, ∀ (s : Shared) (v : Value), BindsTo s T.law.fd ⟨[v], []⟩ [("_law_script", v)]) :
    ∃ fd : FuncData, (∀ (s : Shared) (v : Value), BindsTo s fd ⟨[v], []⟩ [("_law_script", v)]) ∧ ∀ base : Heap, K.In base → base.Ns mainGlobals mg → FnOk l.prog w K mg base CX0 8 fa fd ["_law_script"] (spLaw K) := by
  obtain ⟨T, b⟩ := h
  have e := hfa.symm.trans T.law.g
  cases e
  exact ⟨T.law.fd, b, fun base _ _ => ok_law T⟩
theorem walk {l : PySem.W.OpenLaw} {q : Program} {loose : List Str} {XP : (Str → Option Value) → Heap → Prop} {YP : World → Heap → Prop} {d : DefRec} {K : Params → PySem.W.Frag} (hn : l.most = some 63) (hdf : d.params.defaults = [])
    (hY : ∀ (w : World) (h : Heap), YP w h → (K w.params).In h)
    (F : ∀ (w : World) (mg : Str → Option Value) (fa : Addr) (h : Heap), (K w.params).In h → h.Ns mainGlobals mg → mg d.name = some (.ref fa) →
      ∃ fd : FuncData, (∀ (s : Shared) (u : Value), BindsTo s fd ⟨[u], []⟩ [("_law_script", u)]) ∧ ∀ base : Heap, (K w.params).In base → base.Ns mainGlobals mg → FnOk l.prog w (K w.params) mg base CX0 8 fa fd ["_law_script"] (spLaw (K w.params))) :
    PySem.W.WalkO q loose XP YP l.row.toRowW d [] (fun f vs => PySem.call f vs) :=
  L2.walk_of (n := 63) (k := 8) (x := "_law_script") (CX := fun _ => CX0) (sp := fun w => spLaw (K w.params)) hn (by decide) hdf ⟨rfl, by decide, by decide⟩ hY F (fun _ _ a ns hl _ hS => ⟨a, ns, rfl, hS, hl, fun _ => rfl⟩) fun _ _ _ _ _ z => z
end Hc


set_option Elab.async false
set_option linter.all false
open PySem PySem.W PyProof.Rows
set_option maxRecDepth 100000 in
set_option maxHeartbeats 0 in
theorem PySem.Challenge.cw_hourcards_k90_whole_great_lines_and_ring_holds : PySem.Challenge.rw_hourcards_k90_whole_great_lines_and_ring.Holds := by
  w_on; o_law; k_head; (case hw => w_witness2)
  k_fill
  refine Hc.walk (l := PySem.Challenge.rw_hourcards_k90_whole_great_lines_and_ring) rfl rfl (fun w h Y => PySem.W.kIn_of Y) ?F
  case F =>
    intro w mg fa h KX G hmg
    refine Hc.fin hmg ?T
    refine' Hc.tx_mk KX G ?aisqinteger ?lisqinteger ?cisqinteger ?kisqinteger ?aisqbetween ?lisqbetween ?cisqbetween ?kisqbetween ?acheckqnumber ?lcheckqnumber ?ccheckqnumber ?kcheckqnumber ?alineqlots ?llineqlots ?clineqlots ?klineqlots ?aringqlots ?lringqlots ?cringqlots ?kringqlots ?astepqpower ?lstepqpower ?cstepqpower ?kstepqpower ?atimesqmatrix ?ltimesqmatrix ?ctimesqmatrix ?ktimesqmatrix ?alineqleast ?llineqleast ?clineqleast ?klineqleast ?aringqleast ?lringqleast ?cringqleast ?kringqleast ?aqlawqhand ?lqlawqhand ?cqlawqhand ?kqlawqhand ?aqlawqdraw ?lqlawqdraw ?cqlawqdraw ?kqlawqdraw ?aqlawqisqinteger ?lqlawqisqinteger ?cqlawqisqinteger ?kqlawqisqinteger ?aqlawqnumber ?lqlawqnumber ?cqlawqnumber ?kqlawqnumber ?aqlawqroads ?lqlawqroads ?cqlawqroads ?kqlawqroads ?aqlawqmodulus ?lqlawqmodulus ?cqlawqmodulus ?kqlawqmodulus ?aqlawqdoubled ?lqlawqdoubled ?cqlawqdoubled ?kqlawqdoubled ?aqlawqways ?lqlawqways ?cqlawqways ?kqlawqways ?aqlawqcounts ?lqlawqcounts ?cqlawqcounts ?kqlawqcounts ?aqlawqleast ?lqlawqleast ?cqlawqleast ?kqlawqleast ?aqlawqringsqbyqlines ?lqlawqringsqbyqlines ?cqlawqringsqbyqlines ?kqlawqringsqbyqlines ?aqlawqcut ?lqlawqcut ?cqlawqcut ?kqlawqcut ?alaw ?llaw ?claw ?klaw ?aGREATEST ?aLEASTqLINE ?aLEASTqRING ?aSTEP ?lSTEP ?lSTEP0 ?lSTEP1 ?lSTEP2 ?aXNoNumber ?xXNoNumber ?bmXNoNumbero ?saXNoNumber ?gaXNoNumber ?ggXNoNumber ?iXNoNumber ?yXNoNumber ?lXNoNumber ?cXNoNumber ?kXNoNumber ?kcXNoNumber ?exXNoNumber ?tyXNoNumber ?hdXNoNumber ?icXNoNumber ?suXNoNumber ?anqisinstance ?anqint ?anqbool ?anqtuple ?anqlist ?anqlen ?anqabs ?anqrange ?anqzip ?anqsum ?anqreversed
    (case aisqinteger => k_is)
    (case lisqinteger => k_is)
    (case cisqinteger => k_is)
    (case kisqinteger => k_is)
    (case aisqbetween => k_is)
    (case lisqbetween => k_is)
    (case cisqbetween => k_is)
    (case kisqbetween => k_is)
    (case acheckqnumber => k_is)
    (case lcheckqnumber => k_is)
    (case ccheckqnumber => k_is)
    (case kcheckqnumber => k_is)
    (case alineqlots => k_is)
    (case llineqlots => k_is)
    (case clineqlots => k_is)
    (case klineqlots => k_is)
    (case aringqlots => k_is)
    (case lringqlots => k_is)
    (case cringqlots => k_is)
    (case kringqlots => k_is)
    (case astepqpower => k_is)
    (case lstepqpower => k_is)
    (case cstepqpower => k_is)
    (case kstepqpower => k_is)
    (case atimesqmatrix => k_is)
    (case ltimesqmatrix => k_is)
    (case ctimesqmatrix => k_is)
    (case ktimesqmatrix => k_is)
    (case alineqleast => k_is)
    (case llineqleast => k_is)
    (case clineqleast => k_is)
    (case klineqleast => k_is)
    (case aringqleast => k_is)
    (case lringqleast => k_is)
    (case cringqleast => k_is)
    (case kringqleast => k_is)
    (case aqlawqhand => k_is)
    (case lqlawqhand => k_is)
    (case cqlawqhand => k_is)
    (case kqlawqhand => k_is)
    (case aqlawqdraw => k_is)
    (case lqlawqdraw => k_is)
    (case cqlawqdraw => k_is)
    (case kqlawqdraw => k_is)
    (case aqlawqisqinteger => k_is)
    (case lqlawqisqinteger => k_is)
    (case cqlawqisqinteger => k_is)
    (case kqlawqisqinteger => k_is)
    (case aqlawqnumber => k_is)
    (case lqlawqnumber => k_is)
    (case cqlawqnumber => k_is)
    (case kqlawqnumber => k_is)
    (case aqlawqroads => k_is)
    (case lqlawqroads => k_is)
    (case cqlawqroads => k_is)
    (case kqlawqroads => k_is)
    (case aqlawqmodulus => k_is)
    (case lqlawqmodulus => k_is)
    (case cqlawqmodulus => k_is)
    (case kqlawqmodulus => k_is)
    (case aqlawqdoubled => k_is)
    (case lqlawqdoubled => k_is)
    (case cqlawqdoubled => k_is)
    (case kqlawqdoubled => k_is)
    (case aqlawqways => k_is)
    (case lqlawqways => k_is)
    (case cqlawqways => k_is)
    (case kqlawqways => k_is)
    (case aqlawqcounts => k_is)
    (case lqlawqcounts => k_is)
    (case cqlawqcounts => k_is)
    (case kqlawqcounts => k_is)
    (case aqlawqleast => k_is)
    (case lqlawqleast => k_is)
    (case cqlawqleast => k_is)
    (case kqlawqleast => k_is)
    (case aqlawqringsqbyqlines => k_is)
    (case lqlawqringsqbyqlines => k_is)
    (case cqlawqringsqbyqlines => k_is)
    (case kqlawqringsqbyqlines => k_is)
    (case aqlawqcut => k_is)
    (case lqlawqcut => k_is)
    (case cqlawqcut => k_is)
    (case kqlawqcut => k_is)
    (case alaw => k_is)
    (case llaw => k_is)
    (case claw => k_is)
    (case klaw => k_is)
    (case aGREATEST => k_is)
    (case aLEASTqLINE => k_is)
    (case aLEASTqRING => k_is)
    (case aSTEP => k_is)
    (case lSTEP => k_is)
    (case lSTEP0 => k_is)
    (case lSTEP1 => k_is)
    (case lSTEP2 => k_is)
    (case aXNoNumber => k_is)
    (case xXNoNumber => k_is)
    (case bmXNoNumbero => decide +kernel)
    (case saXNoNumber => k_is)
    (case gaXNoNumber => k_is)
    (case ggXNoNumber => k_is)
    (case iXNoNumber => k_is)
    (case yXNoNumber => k_is)
    (case lXNoNumber => k_is)
    (case cXNoNumber => k_is)
    (case kXNoNumber => k_is)
    (case kcXNoNumber => k_is)
    (case exXNoNumber => k_is)
    (case tyXNoNumber => k_is)
    (case hdXNoNumber => k_is)
    (case icXNoNumber => k_is)
    (case suXNoNumber => first | rfl | k_is)
    (case anqisinstance => k_is)
    (case anqint => k_is)
    (case anqbool => k_is)
    (case anqtuple => k_is)
    (case anqlist => k_is)
    (case anqlen => k_is)
    (case anqabs => k_is)
    (case anqrange => k_is)
    (case anqzip => k_is)
    (case anqsum => k_is)
    (case anqreversed => k_is)

