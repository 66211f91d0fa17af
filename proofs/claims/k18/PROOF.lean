import PyProof.Rows.All
import Wide.All
import OpenK.AllK
import Wide.FinOn
import HandS.ForMost
import HandS.IsInst
import HandS.TupMul
import HandS.TupAny
import HandS.Exc
import HandS.ExcOwn
import HandS.ExcInit
import HandS.ExcField
import HandS.TryOnly
import HandS.WordsExc
import HandS.EndBits
import HandS.CallSlots
import HandS.Deep
import HandS.Style
import PyProof.Rows.IntBool
import HandS.Iter
import HandS.Zip
import PyProof.EnumMake
import PyProof.EnumIter
import PyProof.EnumFor
import PyProof.Draws
import KE.GoesMore
import HandS.TryMany
import HandS.ExcIs
import HandS.SetFor
import HandS.Strs
import HandS.Conv
import PyProof.Rows.SortShell
import KE.KDictWalk
import HandS.Codes
import HandS.Small
import HandS.SlotsOwn
import HandS.Text
import HandS.FStr
import KE.GoesEnum
import KE.KUnpackStar
import KE.GoesEnumKw
import HandS.SortKw
import HandS.ExcValue
import PyProof.SliceList
import HandS.WideBits
import HandS.Steps
import PyProof.StrBlock2
import PySem.Challenge.RW_hourcards_k18_first_wrong_lines_of_days

set_option Elab.async false
set_option linter.all false
set_option maxRecDepth 100000
set_option maxHeartbeats 4000000
namespace Hc
open PySem L2
/-- things, as far as they are looked into -/
inductive D where
  | non | bl (b : Bool) | int (i : Int) | str (s : Str) | tup (xs : List D) | lst | dct
def tyOf : D → String
  | .non => "NoneType" | .bl _ => "bool" | .int _ => "int" | .str _ => "str" | .tup _ => "tuple" | .lst => "list" | .dct => "dict"
section
variable (H : Hp) (h : Addr)
mutual
/-- v is the thing d, in the heap H, apart from the list at h -/
inductive Rp : V → D → Prop
  | non : Rp .non .non
  | bl (b : Bool) : Rp (.bl b) (.bl b)
  | int (i : Int) : Rp (.int i) (.int i)
  | str (x : Str) : Rp (.str x) (.str x)
  | tup {a : Addr} {xs : List V} {ds : List D} : H a = some (.tup xs) → xs.length ≤ 100000 → RpA xs ds → Rp (.ref a) (.tup ds)
  | lst {a : Addr} {xs : List V} : H a = some (.lst xs) → a ≠ h → Rp (.ref a) .lst
  | dct {a : Addr} {kvs : List (Key × V)} : H a = some (.dK kvs) → Rp (.ref a) .dct
inductive RpA : List V → List D → Prop
  | nil : RpA [] []
  | cons {v : V} {vs : List V} {d : D} {ds : List D} : Rp v d → RpA vs ds → RpA (v :: vs) (d :: ds)
end
end
/-- all but what stands at h is as it was -/
def But (h : Addr) (H H' : Hp) : Prop := ∀ b o, H b = some o → b ≠ h → H' b = some o
theorem But.refl (h : Addr) (H : Hp) : But h H H := fun _ _ e _ => e
theorem But.trans {h : Addr} {H H1 H2 : Hp} (a : But h H H1) (b : But h H1 H2) : But h H H2 := fun c o e n => b c o (a c o e n) n
theorem But.of {h : Addr} {H H' : Hp} (s : Same H H') : But h H H' := fun b o e _ => s b o e
theorem But.free {h : Addr} {H H' : Hp} (k : But h H H') {l : Addr} (hl : l ≠ h) (e : H' l = none) : H l = none := by
  cases q : H l with
  | none => rfl
  | some o => rw [k l o q hl] at e; cases e
theorem same_upd {H : Hp} {p : Addr} {o : HO} (hp : H p = none) : Same H (upd H p o) := fun b u e => by
  rw [upd_ne (ne_of_none e hp)]; exact e
theorem but_upd {H : Hp} {h : Addr} {o : HO} : But h H (upd H h o) := fun b u e n => by
  rw [upd_ne n]; exact e
def IsLst (H : Hp) (h : Addr) : Prop := ∃ xs, H h = some (.lst xs)
section
variable {H H' : Hp} {h : Addr}
mutual
theorem Rp.mono (l : IsLst H h) (k : But h H H') : ∀ {v : V} {d : D}, Rp H h v d → Rp H' h v d
  | _, _, .non => .non
  | _, _, .bl b => .bl b
  | _, _, .int i => .int i
  | _, _, .str x => .str x
  | _, _, .tup e z r => .tup (k _ _ e (by obtain ⟨zs, q⟩ := l; exact ne_of e q (by intro z; cases z))) z (RpA.mono l k r)
  | _, _, .lst e n => .lst (k _ _ e n) n
  | _, _, .dct e => .dct (k _ _ e (by obtain ⟨zs, q⟩ := l; exact ne_of e q (by intro z; cases z)))
theorem RpA.mono (l : IsLst H h) (k : But h H H') : ∀ {vs : List V} {ds : List D}, RpA H h vs ds → RpA H' h vs ds
  | _, _, .nil => .nil
  | _, _, .cons a r => .cons (Rp.mono l k a) (RpA.mono l k r)
end
mutual
theorem Rp.same (k : Same H H') : ∀ {v : V} {d : D}, Rp H h v d → Rp H' h v d
  | _, _, .non => .non
  | _, _, .bl b => .bl b
  | _, _, .int i => .int i
  | _, _, .str x => .str x
  | _, _, .tup e z r => .tup (k _ _ e) z (RpA.same k r)
  | _, _, .lst e n => .lst (k _ _ e) n
  | _, _, .dct e => .dct (k _ _ e)
theorem RpA.same (k : Same H H') : ∀ {vs : List V} {ds : List D}, RpA H h vs ds → RpA H' h vs ds
  | _, _, .nil => .nil
  | _, _, .cons a r => .cons (Rp.same k a) (RpA.same k r)
end
theorem RpA.len : ∀ {vs : List V} {ds : List D}, RpA H h vs ds → vs.length = ds.length
  | _, _, .nil => rfl
  | _, _, .cons a r => by rw [List.length_cons, List.length_cons, RpA.len r]
theorem RpA.get : ∀ {vs : List V} {ds : List D} {i : Nat} {v : V}, RpA H h vs ds → vs[i]? = some v → ∃ d, ds[i]? = some d ∧ Rp H h v d
  | _, _, i, _, .nil, e => by simp at e
  | _, _, 0, _, .cons a r, e => by simp at e; subst e; exact ⟨_, rfl, a⟩
  | _, _, i + 1, v, .cons a r, e => by
    obtain ⟨d, h1, h2⟩ := RpA.get (i := i) (v := v) r (by simpa using e)
    exact ⟨d, by simpa using h1, h2⟩
theorem RpA.app : ∀ {vs ws : List V} {ds es : List D}, RpA H h vs ds → RpA H h ws es → RpA H h (vs ++ ws) (ds ++ es)
  | _, _, _, _, .nil, s => s
  | _, _, _, _, .cons a r, s => .cons a (RpA.app r s)
theorem RpA.take : ∀ {vs : List V} {ds : List D} (n : Nat), RpA H h vs ds → RpA H h (vs.take n) (ds.take n)
  | _, _, 0, _ => .nil
  | _, _, _ + 1, .nil => .nil
  | _, _, n + 1, .cons a r => .cons a (RpA.take n r)
theorem RpA.drop : ∀ {vs : List V} {ds : List D} (n : Nat), RpA H h vs ds → RpA H h (vs.drop n) (ds.drop n)
  | _, _, 0, r => r
  | _, _, _ + 1, .nil => .nil
  | _, _, n + 1, .cons _ r => RpA.drop n r
/-- its type -/
theorem Rp.ty {K : PySem.W.Frag} {v : V} {d : D} (r : Rp H h v d) : TyX K H v (.type (tyOf d)) := by
  cases r with
  | non => exact .base .non
  | bl b => exact .base (.bl b)
  | int i => exact .base (.int i)
  | str x => exact .base (.str x)
  | tup e _ _ => exact .base (.tup e)
  | lst e _ => exact .base (.lst e)
  | dct e => exact .base (.dK e)
end
def isIB : D → Bool | .int _ => true | .bl _ => true | _ => false
def isB : D → Bool | .bl _ => true | _ => false
def isT : D → Bool | .tup _ => true | _ => false
theorem kitI (d : D) : kitB (tyOf d) "int" = some (isIB d) := by cases d <;> (simp only [tyOf, isIB]; decide +kernel)
theorem kitBo (d : D) : kitB (tyOf d) "bool" = some (isB d) := by cases d <;> (simp only [tyOf, isB]; decide +kernel)
theorem kitT (d : D) : kitB (tyOf d) "tuple" = some (isT d) := by cases d <;> (simp only [tyOf, isT]; decide +kernel)
def isInt : D → Bool | .int _ => true | _ => false
def isBtw (lo hi : Int) : D → Bool | .int i => decide (lo ≤ i) && decide (i ≤ hi) | _ => false
def areInts (n : Int) : D → Bool | .tup ds => decide ((ds.length : Int) = n) && ds.all isInt | _ => false
def areBtw (n lo hi : Int) : D → Bool | .tup ds => decide ((ds.length : Int) = n) && ds.all (isBtw lo hi) | _ => false
def neq2 : D → Bool | .tup (.int a :: .int b :: _) => !decide (a = b) | _ => false
def isBE (n : Int) (d : D) : Bool := areBtw 2 0 (n - 1) d && neq2 d
def areRoads (n : Int) : D → Bool | .tup ds => decide (1 ≤ ds.length) && decide (ds.length ≤ 24) && ds.all (isBE n) | _ => false
end Hc


set_option Elab.async false
set_option linter.all false
set_option maxRecDepth 100000
set_option maxHeartbeats 4000000
namespace L2
open PySem PySem.Spec PyProof.Rows
/-- x - j, x an int or a bool -/
def rSubA : R2 := fun x y H Q => (∃ i j, x = .int i ∧ y = .int j ∧ Q (.int (i - j)) H) ∨ ∃ b j, x = .bl b ∧ y = .int j ∧ Q (.int ((if b = true then (1 : Int) else 0) - j)) H
theorem op_subA {X : Cx} : OpR X (binaryOp .Sub) rSubA := by
  intro pins s σ H x y v u Q I rx ry h
  rcases h with ⟨i, j, rfl, rfl, q⟩ | ⟨b, j, rfl, rfl, q⟩
  · exact op_sub pins s σ H _ _ v u Q I rx ry ⟨i, j, rfl, rfl, q⟩
  · cases rx
    obtain ⟨t, rfl⟩ := ry
    exact PySem.IntBool.sub_bool_int ⟨.int _, H, I.tok _, ⟨_, rfl⟩, q⟩
/-- t * 1 is t -/
theorem tuple_mul1 (l : Addr) (items : Array Value) (n : Nat) (dd : Option Addr) (sl : Array (Option Value)) (u : Tok) :
    Meets (Builtin.«tuple.__mul__» ⟨[.ref l, .int 1 u], []⟩) (fun _ R s => s.heap.get? l = some { cls := .type "tuple", dict := dd, data := .seq items n, slots := sl } ∧
      R (.ok (.ret (Value.ref l))) s) :=
  .of_wp fun prog w A R s h => by
    obtain ⟨hp, g, d, tk, os⟩ := s
    obtain ⟨hl, h⟩ := h
    have f1 := AutoSeq1.idx_int
    have c0 : (decide ((1 : Int) < -(2 ^ 63)) || decide ((1 : Int) ≥ 2 ^ 63)) = false := by decide
    have c1 : (items.isEmpty || ((1 : Int) == 1)) = true := by rw [Bool.or_eq_true]; exact .inr rfl
    wp_walk using wpAny_loadPart' hl
    repeat (first
      | (refine wpAny_ite_false (decide_eq_false (by rw [c0]; exact Bool.false_ne_true)) ?_; wp_walk using wpAny_loadPart' hl)
      | (refine wpAny_ite_true (decide_eq_true c1) ?_; wp_walk using wpAny_loadPart' hl))
    exact ⟨_, rfl, h⟩
def rRepA (K : PySem.W.Frag) : R2 := fun x y H Q => ∃ l k xs, x = .ref l ∧ y = .int k ∧ SqT K H l xs ∧ xs ≠ [] ∧ 1 ≤ k ∧ k ≤ 1000 ∧ xs.length ≤ 1000 ∧
  (k = 1 → Q (.ref l) H) ∧ (2 ≤ k → ∀ p, H p = none → Q (.ref p) (upd H p (.tup (List.replicate k.toNat xs).flatten)))
theorem op_repA {X : Cx} : OpR X (binaryOp .Mult) (rRepA X.K) := by
  intro pins s σ H x y v u Q I rx ry h
  obtain ⟨l, k, xs, rfl, rfl, hT, hne, h1, h2, hz, q1, q2⟩ := h
  by_cases h3 : 2 ≤ k
  · exact op_repT pins s σ H _ _ v u Q I rx ry ⟨l, k, xs, rfl, rfl, hT, hne, h3, h2, hz, q2 h3⟩
  · obtain rfl : k = 1 := by omega
    cases rx
    obtain ⟨t, rfl⟩ := ry
    obtain ⟨its, r, ⟨⟨cls, dd, data, sl⟩, ho, hc, n, hd⟩, hs⟩ := I.tuple hT
    simp only at hc hd
    subst hc hd
    exact wpAny_binaryOp_repeat_ref (T := "tuple") (U := "int") (by decide) ⟨_, ho, rfl⟩ (fun s' => typeIs_int s' 1 t) noFill_tuple_mul F.fills_int_mul F.slot_int_rmul repeat_tuple F.slot_int_index.lookup
      (call_meets F.slot_int_rmul (typeIs_int s 1 t) F.entry_int_rmul (F.args_int_rmul_2 _ _) (int_rmul_tuple 1 t l its.toArray n dd sl)
        ⟨ho, rfl, ⟨_, ho, rfl⟩, call_meets F.slot_tuple_mul ⟨_, ho, rfl⟩ F.entry_tuple_mul (F.args_tuple_mul_2 _ _) (tuple_mul1 l its.toArray n dd sl t) ⟨ho, ⟨.ref l, H, I, rfl, q1 rfl⟩⟩⟩)
/-- C(e, ..) where what is raised is wished for at the caller's slots -/
def tMakeS (C : Addr) (sp : Sp) (dvs : List V) (E : St → XK) (t : TA) : TE := fun σ H Q => t σ H fun vs H1 => ∀ x dx, H1 x = none → H1 dx = none → dx ≠ x →
  sp (.ref x :: (vs ++ dvs)) (upd (upd H1 dx (.own x)) x (.ins C dx [])) (fun v H2 => v = .non ∧ Q (.ref x) H2) (E σ)
section
variable {X : Cx} {CX : CXT} {k : Nat} {f C : Addr} {fd : FuncData} {ps : List Str} {sp : Sp} {dvs : List V} {ds : List Value} {E : St → XK} {x m : Str} {p pos apos : Pos} {e o : Expr} {es : List Expr} {ta : TE} {t : TA}
theorem pe_makeS (M : Mk X.K C f) (F : FnOk X.prog X.w X.K X.mg X.base CX k f fd ps sp) (hr : Room (k + 1) X.A) (hg : Gl X x) (hm : X.mg x = some (.ref C)) (hb : Binds X.K fd ps ds) (hd : Vals dvs ds) (hx : ∀ σ, PassesAt CX X σ (E σ))
    (ha : PA X (e :: es) t) (hdb : (x == ("__debug__" : Str)) = false := by decide) (he : starEach (e :: es) X.env = (false, eval e X.env) :: starEach es X.env := by rfl) (hpl : (backTo pos (starEach es X.env)).any (·.1) = false := by rfl) :
    PE X (.Call (.Name x p) (e :: es) [] pos) (tMakeS C sp dvs E t) := by
  refine ⟨fun pins s0 σ H0 Q I0 h0 => ?_⟩
  refine wpAny_Call_Name_kw (ld_glob I0 hg hm ?_ hdb)
  refine PySem.W.callWith_K (h₀ := X.base) I0.ok.mod.kin M.kp (thn (ha.run pos pins s0 σ H0 _ I0 h0) fun us s ⟨vs, H, I, r, h⟩ => ⟨I.kIn, ?_⟩) he hpl
  have hq := h (s.heap.objs.size + 1) s.heap.objs.size (I.hok.fresh (Nat.le_succ _)) (I.hok.fresh (Nat.le_refl _)) (Nat.ne_of_lt (Nat.lt_succ_self _))
  have I2 := Inv.made (C := C) I
  have r2 : Vals (V.ref (s.heap.objs.size + 1) :: (vs ++ dvs)) (Value.ref (s.heap.objs.size + 1) :: (us ++ ds)) := .cons rfl (r.append hd)
  have hl : (Value.ref (s.heap.objs.size + 1) :: us ++ ds).length = ps.length := by
    have e := r2.length
    rw [F.len _ _ _ _ hq] at e
    exact e.symm
  refine wpAny_call (make_map (f := f) I.kIn M.makes M.init (beq_iff_eq.mp M.fn) (codeAny_mono (F.run _ X.stack _ _ ⟨Value.ref (s.heap.objs.size + 1) :: us, []⟩ (Value.ref (s.heap.objs.size + 1) :: (us ++ ds)) _ _ (E σ) (hr.make C us [])
    (I2.env0.make C us []) (hb _ (Value.ref (s.heap.objs.size + 1) :: us) I2.kIn hl) r2 hq) fun r s' hq' => ?_))
  cases r with
  | error e => exact hx σ pins _ _ e s' I2 hq'
  | ok fl =>
    cases fl with
    | ret u =>
      obtain ⟨v, H', I3, rv, ev, q3⟩ := I2.after hq'
      subst ev
      exact ⟨rv, ⟨V.ref (s.heap.objs.size + 1), H', I3, rfl, q3⟩⟩
    | next => exact False.elim hq'
    | brk => exact False.elim hq'
    | cont => exact False.elim hq'
end
end L2
/-! ### Hc -/
namespace Hc
open PySem L2
theorem line_lt {n : Nat} (h : n ≤ 100000) : n < sizeLine := by rw [sizeLine_eq]; omega
theorem line_le {n : Nat} (h : n ≤ 100000) : n ≤ sizeLine := by rw [sizeLine_eq]; omega
theorem take_more {α : Type} : ∀ {l : List α} {i : Nat} {x : α}, l[i]? = some x → l.take (i + 1) = l.take i ++ [x]
  | [], i, x, h => by simp at h
  | a :: l, 0, x, h => by
    have e : a = x := Option.some.inj h
    subst e
    rfl
  | a :: l, i + 1, x, h => by
    have ih := take_more (l := l) (i := i) (x := x) h
    show a :: l.take (i + 1) = a :: l.take i ++ [x]
    rw [ih]
    rfl
/-- [p(x) for x in t]: the list of the answers -/
theorem all_tup {K : PySem.W.Frag} {H : Hp} {h a A : Addr} {xs : List V} {ds : List D} {j : Nat} {te : TE} {σ : St} {vs : List Nat} {Qd : Hp → Prop}
    (e : H a = some (.tup xs)) (z : xs.length ≤ 100000) (ra : RpA H h xs ds) (p : D → Bool) (hA : H A = none)
    (hw : ∀ x, wipe ((wipe σ vs).set j (some x)) vs = wipe σ vs)
    (hs : ∀ x d H' (Q : VK), d ∈ ds → Same H H' → Rp H' h x d → (∀ H4, Same H' H4 → Q (.bl (p d)) H4) → te ((wipe σ vs).set j (some x)) H' Q)
    (hd : ∀ H', Same H H' → SqL K H' A ((ds.map p).map V.bl) → Qd H') :
    ∃ W : Nat → Nat → Hp → Prop, (∃ m, W 0 m (upd H A (.lst []))) ∧ ∀ i m H, W i m H →
      ((Itt K a).stop i H ∧ Qd H) ∨ ((Itt K a).go i H ∧ ∃ Nx : Hp → Prop, (∀ H', Nx H' → ∃ m', m' < m ∧ W (i + 1) m' H') ∧ ∀ x H', (Itt K a).yld i H x H' → (gName j) x (wipe σ vs) H' fun σ2 H2 => wipe σ2 vs = wipe σ vs ∧ tYes σ2 H2 fun b H3 =>
        if b = true then te σ2 H3 fun y H4 => ∃ acc, H4 A = some (.lst acc) ∧ acc.length < sizeLine ∧ Nx (upd H4 A (.lst (acc ++ [y]))) else Nx H3) := by
  have hl := ra.len
  refine lc_tup (K := K) (xs := xs) (fun i H' => Same H (fun b => if b = A then none else H' b) ∧ H' A = some (.lst (((ds.take i).map p).map V.bl)))
    ⟨fun b o q => ?_, upd_same⟩ (fun i H' hi ⟨s, _⟩ => ?_) ?_ ?_
  · have n := ne_of_none q hA
    show (if b = A then none else upd H A _ b) = _
    rw [if_neg n, upd_ne n]; exact q
  · have q := s _ _ e
    have n := ne_of_none e hA
    simp only [if_neg n] at q
    exact SqT.of q
  · intro i x H' hx ⟨s, hH⟩
    have sm : Same H H' := fun b o q => by
      have r := s b o q
      simp only [if_neg (ne_of_none q hA)] at r
      exact r
    obtain ⟨d, hd1, rp⟩ := ra.get hx
    have hi : i < xs.length := (List.getElem?_eq_some_iff.mp hx).1
    refine ⟨hw x, ?_⟩
    unfold tYes
    show (if true = true then te _ _ _ else _)
    rw [if_pos rfl]
    refine hs x d H' _ (List.mem_of_getElem? hd1) sm (rp.same sm) fun H4 s4 => ⟨_, s4 _ _ hH, ?_, ?_, ?_⟩
    · rw [List.length_map, List.length_map, List.length_take]
      exact line_lt (by omega)
    · intro b o q
      have n := ne_of_none q hA
      show (if b = A then none else upd H4 A _ b) = _
      rw [if_neg n, upd_ne n]
      exact s4 _ _ (sm _ _ q)
    · rw [upd_same, take_more hd1, List.map_append, List.map_append]; rfl
  · intro H' ⟨s, hH⟩
    have sm : Same H H' := fun b o q => by
      have r := s b o q
      simp only [if_neg (ne_of_none q hA)] at r
      exact r
    rw [hl, List.take_length] at hH
    exact hd H' sm (SqL.of hH)
/-- [x for x in t if not p(x)]: as many as are none -/
theorem none_tup {K : PySem.W.Frag} {H : Hp} {h a A : Addr} {xs : List V} {ds : List D} {j : Nat} {te : TE} {tt : TT} {σ : St} {vs : List Nat} {Qd : Hp → Prop}
    (e : H a = some (.tup xs)) (z : xs.length ≤ 100000) (ra : RpA H h xs ds) (p : D → Bool) (hA : H A = none)
    (hw : ∀ x, wipe ((wipe σ vs).set j (some x)) vs = wipe σ vs)
    (hs : ∀ x d H' (Q : Bool → Hp → Prop), d ∈ ds → Same H H' → Rp H' h x d → (∀ H4, Same H' H4 → Q (!p d) H4) → tt ((wipe σ vs).set j (some x)) H' Q)
    (ht : ∀ x H' (Q : VK), Same H H' → (∀ y, Q y H') → te ((wipe σ vs).set j (some x)) H' Q)
    (hd : ∀ H' acc, Same H H' → SqL K H' A acc → acc.length ≤ 100000 → (acc.length = 0 ↔ ds.all p = true) → Qd H') :
    ∃ W : Nat → Nat → Hp → Prop, (∃ m, W 0 m (upd H A (.lst []))) ∧ ∀ i m H, W i m H →
      ((Itt K a).stop i H ∧ Qd H) ∨ ((Itt K a).go i H ∧ ∃ Nx : Hp → Prop, (∀ H', Nx H' → ∃ m', m' < m ∧ W (i + 1) m' H') ∧ ∀ x H', (Itt K a).yld i H x H' → (gName j) x (wipe σ vs) H' fun σ2 H2 => wipe σ2 vs = wipe σ vs ∧ tt σ2 H2 fun b H3 =>
        if b = true then te σ2 H3 fun y H4 => ∃ acc, H4 A = some (.lst acc) ∧ acc.length < sizeLine ∧ Nx (upd H4 A (.lst (acc ++ [y]))) else Nx H3) := by
  have hl := ra.len
  refine lc_tup (K := K) (xs := xs) (fun i H' => Same H (fun b => if b = A then none else H' b) ∧ ∃ acc, H' A = some (.lst acc) ∧ acc.length ≤ i ∧ (acc.length = 0 ↔ (ds.take i).all p = true))
    ⟨fun b o q => ?_, [], upd_same, Nat.le_refl _, by simp⟩ (fun i H' hi ⟨s, _⟩ => ?_) ?_ ?_
  · have n := ne_of_none q hA
    show (if b = A then none else upd H A _ b) = _
    rw [if_neg n, upd_ne n]; exact q
  · have q := s _ _ e
    have n := ne_of_none e hA
    simp only [if_neg n] at q
    exact SqT.of q
  · intro i x H' hx ⟨s, acc, hH, h1, h2⟩
    have sm : Same H H' := fun b o q => by
      have r := s b o q
      simp only [if_neg (ne_of_none q hA)] at r
      exact r
    obtain ⟨d, hd1, rp⟩ := ra.get hx
    have hi : i < xs.length := (List.getElem?_eq_some_iff.mp hx).1
    refine ⟨hw x, hs x d H' _ (List.mem_of_getElem? hd1) sm (rp.same sm) fun H4 s4 => ?_⟩
    cases hp : p d with
    | false =>
      rw [if_pos (by decide)]
      refine ht x H4 _ (fun b o q => s4 _ _ (sm _ _ q)) fun y => ⟨_, s4 _ _ hH, line_lt (by omega), fun b o q => ?_, _, upd_same, ?_, ?_⟩
      · have n := ne_of_none q hA
        show (if b = A then none else upd H4 A _ b) = _
        rw [if_neg n, upd_ne n]
        exact s4 _ _ (sm _ _ q)
      · rw [List.length_append, List.length_singleton]; omega
      · rw [List.length_append, List.length_singleton, take_more hd1, List.all_append]
        simp [hp]
    | true =>
      rw [if_neg (by decide)]
      refine ⟨fun b o q => ?_, acc, s4 _ _ hH, by omega, ?_⟩
      · have n := ne_of_none q hA
        show (if b = A then none else H4 b) = _
        rw [if_neg n]
        exact s4 _ _ (sm _ _ q)
      · rw [take_more hd1, List.all_append, h2]
        simp [hp]
  · intro H' ⟨s, acc, hH, h1, h2⟩
    have sm : Same H H' := fun b o q => by
      have r := s b o q
      simp only [if_neg (ne_of_none q hA)] at r
      exact r
    rw [hl, List.take_length] at h2
    exact hd H' acc sm (SqL.of hH) (by omega) h2
end Hc


set_option Elab.async false
set_option linter.all false
set_option maxRecDepth 100000
set_option maxHeartbeats 4000000
set_option autoImplicit false
namespace PySem
open Sem (wp)
open AutoSeq1 (wpAny_loadPart')
theorem meets_enumerate_newT (l : Addr) (items : Array Value) (n : Nat) (dct : Option Addr) (sl : Array (Option Value)) :
    Meets (Builtin.«enumerate.__new__» ⟨[.type "enumerate", .ref l], []⟩) (fun _ R s => s.heap.get? l = some { cls := .type "tuple", dict := dct, data := .seq items n, slots := sl } ∧
      R (.ok (.ret (.ref (s.heap.push { cls := .type "tuple_iterator", data := .fields #[.ref l, .int 0 0] }).objs.size)))
        { s with heap := (s.heap.push { cls := .type "tuple_iterator", data := .fields #[.ref l, .int 0 0] }).push { cls := .type "enumerate", data := .fields #[.none, .bool false, .ref s.heap.objs.size, rawInt 0, .none, .none] } }) :=
  .of_wp fun prog w A R s h => by
    obtain ⟨hp, g, d, tk, os⟩ := s; obtain ⟨hl, h⟩ := h
    have hsub := sub_enumerate
    have hL : Heap.IsTuple (Shared.heap ⟨hp, g, d, tk, os⟩) l items := ⟨_, hl, rfl, n, rfl⟩
    wp_walk using wpAny_loadPart' hl
    refine wpAny_stack_any fun st => wpAny_pure ?_
    split
    · rename_i c _ _ _ _ _
      cases (c == Value.type "enumerate")
      · wp_walk using wpAny_loadPart' hl, wpAny_pyIter_tuple hL
        exact ⟨_, rfl, h⟩
      · wp_walk using wpAny_loadPart' hl, wpAny_pyIter_tuple hL
        exact ⟨_, rfl, h⟩
    · wp_walk using wpAny_loadPart' hl, wpAny_pyIter_tuple hL
      exact ⟨_, rfl, h⟩
section
variable {prog : Program} {w : World} {A : Around} {E : Value → Shared → Prop} {s : Shared}
theorem call_enumerate_tuple {l : Addr} {items : Array Value} {Q : Value → Shared → Prop} (hL : s.heap.IsTuple l items)
    (h : ∀ h', IsEnum h' (s.heap.objs.size + 1) s.heap.objs.size 0 .none → h'.IsTupleIter s.heap.objs.size l 0 → h'.objs.size = s.heap.objs.size + 2 →
      (∀ b o, s.heap.get? b = some o → h'.get? b = some o) → Q (.ref (s.heap.objs.size + 1)) { s with heap := h' }) :
    wpAny (model prog w) A (call (.type "enumerate") [.ref l]) Q E s := by
  obtain ⟨⟨c, dct, dt, sl⟩, hl, hc, n, hd⟩ := hL
  replace hc : c = .type "tuple" := hc
  replace hd : dt = .seq items n := hd
  subst hc hd
  refine callType_new F.called_enumerate (by decide) (F.typeCall_enumerate_1 _) (F.newCall_enumerate_1 _) (fun obj => F.args_object_init_2 obj _) F.entry_enumerate_new
    (meets_enumerate_newT l items n dct sl) ⟨hl, ?_⟩
  have hz : (s.heap.push { cls := .type "tuple_iterator", data := .fields #[.ref l, .int 0 0] }).objs.size = s.heap.objs.size + 1 := Heap.size_push ..
  show _ ∧ _
  rw [hz]
  have he : IsEnum ((s.heap.push { cls := .type "tuple_iterator", data := .fields #[.ref l, .int 0 0] }).push
      { cls := .type "enumerate", data := .fields #[.none, .bool false, .ref s.heap.objs.size, rawInt 0, .none, .none] }) (s.heap.objs.size + 1) s.heap.objs.size 0 .none := by
    have := Heap.get?_push_size (s.heap.push { cls := .type "tuple_iterator", data := .fields #[.ref l, .int 0 0] })
      (o := { cls := .type "enumerate", data := .fields #[.none, .bool false, .ref s.heap.objs.size, rawInt 0, .none, .none] }) rfl
    rw [hz] at this; exact this
  refine ⟨⟨_, he, rfl⟩, h _ he ⟨_, Heap.get?_push_of_some _ (Heap.get?_push_size _ rfl), rfl, rfl⟩ (by rw [Heap.size_push, hz]) fun b o x => Heap.get?_push_of_some _ (Heap.get?_push_of_some _ x)⟩
theorem wpAny_pyNext_enum_endT {e it l : Addr} {i : Nat} {items : Array Value} {old : Value} {Q : Option Value → Shared → Prop} (hh : A.handled = none)
    (he : IsEnum s.heap e it i old) (hit : s.heap.IsTupleIter it l i) (hl : s.heap.IsTuple l items) (hx : items[i]? = none)
    (hQ : ∀ h', Heap.ExtBut it s.heap h' → Q none { s with heap := h' }) : wpAny (model prog w) A (pyNext (.ref e)) Q E s := by
  have hT : s.TypeIs (.ref e) "enumerate" := ⟨_, he, rfl⟩
  unfold pyNext
  refine wpAny_bind (wpAny_attempt (wpAny_callSpecial?_slot (name := Str.ofString "__next__") hT F.slot_enumerate_next
    (wpAny_call_entry F.slot_enumerate_next hT F.entry_enumerate_next ?_ (F.args_enumerate_next_1 _))))
  show wpAny _ _ (field (.ref e) 2 >>= _) _ _ _
  refine wpAny_bind (wpAny_field he rfl (x := .ref it) rfl ?_)
  refine wpAny_bind (wpAny_nextOf_tuple_end hh hit hl hx fun h' x he' hx' => ?_)
  obtain ⟨o, ho, hc⟩ := hx'
  refine wpAny_bind (wpAny_isInstance (T := "StopIteration") (b := true) ⟨o, ho, hc⟩ isSubtype_stop ?_)
  exact wpAny_pure (hQ _ he')
end
end PySem
namespace L2
open PySem PySem.Spec PyProof.Rows
/-- the tuple at a as it stands at each turn, each item in a new pair with its number -/
def IteT (K : PySem.W.Frag) (a : Addr) : It :=
  ⟨fun i H => ∃ (xs : List V) (x : V), SqT K H a xs ∧ xs[i]? = some x, fun i H v H' => ∃ T x, v = .ref T ∧ H T = none ∧ H' = upd H T (.tup [.int (i : Nat), x]) ∧ ∀ xs, SqT K H a xs → xs[i]? = some x, fun i H => ∃ xs : List V, SqT K H a xs ∧ xs.length ≤ i⟩
theorem turn_enumT {P : Program} {w : World} {K : PySem.W.Frag} {elts : List Expr} {kk : Nat} {tpos : Pos} (a e it : Addr) :
    Turn P w K (.Tuple elts kk tpos) (IteT K a) [e, it] e (fun i h => (∃ old, IsEnum h e it ((i : Nat) : Int) old) ∧ h.IsTupleIter it a i ∧ e ≠ it ∧ a ≠ it ∧ e ≠ a) where
  mem := by simp
  obj := fun i h st b hb => by
    obtain ⟨⟨old, he⟩, ⟨o, ho, hc, hd⟩, _⟩ := st
    have e' : b = e ∨ b = it := by simpa using hb
    rcases e' with z | z
    · rw [z]; exact ⟨_, he, fun v q => nomatch q⟩
    · rw [z]; exact ⟨o, ho, fun v q => by rw [hd] at q; cases q⟩
  keep := fun i h h' st k => let ⟨⟨old, he⟩, hi, hne⟩ := st; ⟨⟨old, k e (by simp) _ he⟩, hi.at fun o q => k it (by simp) o q, hne⟩
  item := by
    intro X hP hw hK hc i pins s σ H E I hf st hg
    subst hP hw hK
    obtain ⟨⟨old, he⟩, hit, hne, hai, hea⟩ := st
    obtain ⟨xs, x, hq, hx⟩ := hg
    obtain ⟨its, rv, p, hz⟩ := I.tuple hq
    obtain ⟨u, hu, ru⟩ := rv.get hx
    have hel : e < s.heap.objs.size := Heap.lt_size he
    have hil : it < s.heap.objs.size := by obtain ⟨_, q, _⟩ := hit; exact Heap.lt_size q
    have hlt : i < its.toArray.size := by
      rw [List.size_toArray]
      exact (List.getElem?_eq_some_iff.mp hu).1
    refine wpAny_pyNext_enum_itemD (Draws.tuple (A := X.A.in1) (I.ok.hd hc) it a hai its.toArray) he ⟨hit, p⟩ hlt hne (by simp [hne, hea]) fun x' h' tk hx' ho st' hT hsz hk => ?_
    obtain ⟨hit', _⟩ := st'
    obtain rfl : x' = u := by
      have q : its[i]? = some x' := by simpa using hx'
      rw [hu] at q
      exact (Option.some.inj q).symm
    refine ⟨_, rfl, wpAny_letOwnedTupleGo_enum (s := { s with heap := h', toks := tk + 1 }) ho fun h'' he' sb => ?_⟩
    have hT2 : h''.get? s.heap.objs.size = some { cls := .type "tuple", data := .seq #[.int i tk, x'] } := (sb.2 _ (Nat.ne_of_gt hel)).trans hT
    have new : ObjOk X.prog X.w (upd H s.heap.objs.size (.tup [.int (i : Nat), x])) h'' s.heap.objs.size (.tup [.int (i : Nat), x]) :=
      ⟨by show 2 ≤ sizeLine; decide, [.int i tk, x'], .cons ⟨_, rfl⟩ (.cons ru .nil), ⟨_, hT2, rfl, _, rfl⟩⟩
    have I1 : Inv X pins σ (upd H s.heap.objs.size (.tup [.int (i : Nat), x])) { s with heap := h'', toks := tk + 1 } :=
      I.turnedNew (ch := [e, it]) (fun b ob hb q => (sb.2 b (fun z => hb (by simp [z]))).trans (hk b ob (fun z => hb (by simp [z])) (fun z => hb (by simp [z])) q)) hf (Nat.le_refl _) new
    refine ⟨.ref s.heap.objs.size, _, I1, rfl, ⟨_, x, rfl, I.hok.fresh (Nat.le_refl _), rfl, fun ys hy => by rw [I.tuple_inj hy hq]; exact hx⟩, ⟨⟨x', ?_⟩, hit'.at fun o q => (sb.2 it (Ne.symm hne)).trans q, hne, hai, hea⟩, fun b hb => ?_⟩
    · have e1 : ((i + 1 : Nat) : Int) = (i : Int) + 1 := by omega
      rw [e1]; exact he'
    · have hb' : b < s.heap.objs.size := by
        have e' : b = e ∨ b = it := by simpa using hb
        rcases e' with z | z
        · rw [z]; exact hel
        · rw [z]; exact hil
      rw [upd_ne (Nat.ne_of_lt hb')]
      exact (hf b hb).1
  done := by
    intro X hP hw hK hc i pins s σ H E I hf st hg
    subst hP hw hK
    obtain ⟨⟨old, he⟩, hit, hne, hai, hea⟩ := st
    obtain ⟨xs, hq, hx⟩ := hg
    obtain ⟨its, rv, p, hz⟩ := I.tuple hq
    obtain ⟨f0, f1, f2, f3, f4, f5⟩ := hf it (by simp)
    have hl := rv.length
    exact wpAny_pyNext_enum_endT (I.ok.hd hc) he hit p (by simp; omega) fun h' eb => ⟨rfl, I.turned (t' := s.toks) (fun b o hb q => eb b o hb q) f0 f1 f3 f4 f5⟩
  self := fun A i s Q E st h => let ⟨⟨_, he⟩, _⟩ := st; wpAny_pyIter_enum he h
def iEnumT (K : PySem.W.Frag) (ta : TA) : TI := fun σ H R => ta σ H fun vs H1 => ∃ a xs, vs = [.ref a] ∧ SqT K H1 a xs ∧ R (IteT K a) H1
theorem pi_enumT {X : Cx} {e : Expr} {ta : TA} {p pos tpos : Pos} {elts : List Expr} {kk : Nat} (hg : Gl X "enumerate") (hm : X.mg "enumerate" = none) (ha : PA X [e] ta) (hs : starEach [e] X.env = [(false, eval e X.env)] := by rfl) :
    PI X (.Tuple elts kk tpos) (.Call (.Name "enumerate" p) [e] [] pos) (iEnumT X.K ta) := by
  refine ⟨fun pins s σ H R I h => ?_⟩
  refine Call_ (ld_blt I hg hm boot_enumerate (PyProof.Rows.callWith_type1 (thn (ha.run pos pins s σ H _ I h) fun us s1 ⟨vs, H1, I1, r1, q1⟩ => ?_) hs rfl))
  obtain ⟨a, xs, ex, hq, q⟩ := q1
  subst ex
  cases r1 with
  | cons r rr =>
    cases rr
    cases r
    obtain ⟨its, rv, p', hz⟩ := I1.tuple hq
    have hal : a < s1.heap.objs.size := by obtain ⟨_, q, _⟩ := p'; exact Heap.lt_size q
    refine call_enumerate_tuple p' fun h' he hit hsz hk => wpAny_pyIter_enum he ?_
    have I2 : Inv X pins σ H1 { s1 with heap := h' } := I1.kept (t' := s1.toks) hk
    refine ⟨s1.heap.objs.size + 1, [s1.heap.objs.size + 1, s1.heap.objs.size], _, _, H1, rfl, I2, turn_enumT a (s1.heap.objs.size + 1) s1.heap.objs.size, ⟨⟨.none, he⟩, hit, Nat.succ_ne_self _, Nat.ne_of_lt hal, Ne.symm (Nat.ne_of_lt (Nat.lt_succ_of_lt hal))⟩, fun b hb => ?_, q⟩
    have e' : b = s1.heap.objs.size + 1 ∨ b = s1.heap.objs.size := by simpa using hb
    have hle : s1.heap.objs.size ≤ b := by
      rcases e' with z | z
      · rw [z]; exact Nat.le_add_right _ _
      · rw [z]; exact Nat.le_refl _
    exact I1.fpOk hle (I1.hok.fresh hle)
end L2


set_option Elab.async false
set_option linter.all false
set_option maxRecDepth 100000
set_option maxHeartbeats 4000000
set_option autoImplicit false
namespace L2
open PySem PySem.Spec PyProof.Rows
section
variable {X : Cx}
theorem mk_endN {pins : List (Addr × Obj)} {σ : St} {H1 H2 : Hp} {Q : XK} {hp hp2 h2 : Heap} {g1 g2 : Array GenState} {d1 d2 : Drawn} {t1 t2 : Nat} {os1 os2 : OsState} {a C : Addr} (T : Raises X (.ref C)) (I1 : Inv X pins σ H1 ⟨hp, g1, d1, t1, os1⟩)
    (ha : hp.objs.size ≤ a) (k : ∀ b o, hp.get? b = some o → hp2.get? b = some o) (un : Un (frs X.stack) [] (upd H1 a (exo a C none)) H2 hp2 h2) (hok : HOk X.prog X.w H2 h2) (ho : os2 = os1) (hb : AllBare g2)
    (e2 : H2 = upd H1 a (exo a C none)) (q : Q (.ref C) none H1) : MkP X pins σ Q (.ref a) ⟨h2, g2, d2, t2, os2⟩ := by
  have ea : H2 a = some (exo a C none) := by rw [e2]; exact upd_same
  obtain ⟨t0, hoe⟩ := exo_at hok ea
  have hn : H1 a = none := I1.hok.fresh ha
  obtain ⟨G, g1', g2'⟩ := restrict h2 fun b => decide (b ≠ a)
  have gk : ∀ b, b ≠ a → G.get? b = h2.get? b := fun b hb => g1' b (decide_eq_true hb)
  have ge : G.get? a = none := g2' a (by simp)
  have nha : ∀ {b : Addr} {o : Obj}, hp.get? b = some o → b ≠ a := fun {b o} z => Nat.ne_of_lt (Nat.lt_of_lt_of_le (Heap.lt_size z) ha)
  have up : ∀ {b : Addr}, b ≠ a → H1 b = none → upd H1 a (exo a C none) b = none := fun {b} hb n => by rw [upd_ne hb]; exact n
  have dn : del H2 a = H1 := by
    funext b
    by_cases z : b = a
    · subst z; rw [del_same, hn]
    · rw [del_ne z, e2, upd_ne z]
  have U : Un (frs X.stack) [] H1 (del H2 a) hp G := {
    keep := fun b o z n hf hx => by
      rw [gk b (nha z)]
      exact un.keep b o (k b o z) (up (nha z) n) hf hx
    slot := fun b o z n hf hx => by
      rw [gk b (nha z)]
      exact un.slot b o (k b o z) (up (nha z) n) hf hx
    free := fun b o z n hx => by
      rw [del_ne (nha z)]
      exact un.free b o (k b o z) (up (nha z) n) hx
    there := fun b o z hx => by
      rw [gk b (nha z)]
      exact un.there b o (k b o z) hx
    tups := fun b xs z => by
      rw [del_ne (ne_of_none z hn)]
      exact un.tups b xs (by rw [upd_ne (ne_of_none z hn)]; exact z)
    frzs := fun b o v z => by
      rw [del_ne (ne_of_none z hn)]
      exact un.frzs b o v (by rw [upd_ne (ne_of_none z hn)]; exact z)
    tbls := fun b ps z => by
      rw [del_ne (ne_of_none z hn)]
      exact un.tbls b ps (by rw [upd_ne (ne_of_none z hn)]; exact z) }
  have hok3 : HOk X.prog X.w (del H2 a) G := fun b o z => by
    have hba : b ≠ a := fun e => by
      rw [e, del_same] at z
      cases z
    rw [del_ne hba] at z
    have noa : ∀ {c : Addr}, H2 c = some (.own b) → c ≠ a := fun {c} hc => at_ne ea hc exo_own
    exact (hok b o z).stay (fun c v hc y => by
        have hca : c ≠ a := by
          rcases hc with hc | hc
          · rw [hc]
            exact hba
          · exact noa hc
        rw [gk c hca]
        exact y)
      (fun c hc => by rw [del_ne (noa hc)]; exact hc) (fun c xs hc => by rw [del_ne (at_ne ea hc exo_tup)]; exact hc)
  have J : Inv X pins σ (del H2 a) ⟨G, g2, d2, t2, os2⟩ := I1.call' (ch := []) ho U hok3 hb (fun b z => absurd z (by simp))
  rw [dn] at J
  refine ⟨a, _, _, ⟨G, g2, d2, t2, os2⟩, _, .ref C, none, rfl, J, fun b o z => ?_, ge, hoe, ⟨rfl, rfl⟩, rfl, rfl, hn, rfl, hb, T, q⟩
  by_cases hba : b = a
  · rw [hba, ge] at z
    cases z
  · exact (gk b hba).symm.trans z
/-- C() of an own exception whose __init__ does nothing -/
def spInitN : Sp := fun vs H Q _ => ∃ a : Addr, vs = [.ref a] ∧ Q .non H
def tMkN (C : Addr) : St → Hp → XK → Prop := fun _ H Q => Q (.ref C) none H
theorem pmk_oexN {CX : CXT} {x : Str} {C fI : Addr} {k : Nat} {fd : FuncData} {ps : List Str} {p pos : Pos} (T : OexC X.K C) (iC : PySem.W.findIn X.K (.ref C) "__init__" = some (some (.ref fI))) (tI : PySem.W.typeIn X.K (.ref fI) = some (.type "function"))
    (F1 : FnOk X.prog X.w X.K X.mg X.base CX k fI fd ps spInitN) (hr : Room (k + 1) X.A) (hb : Binds X.K fd ps []) (hx : Passes CX X (fun _ _ _ => False)) (hg : Gl X x) (hm : X.mg x = some (.ref C))
    (hdb : (x == ("__debug__" : Str)) = false := by decide) :
    PMk X (.Call (.Name x p) [] [] pos) (tMkN C) := by
  intro pins s1 σ H1 Q I1 h
  obtain ⟨nm, q, N, bs, bm, sn, sub, ab, col, dd, k0, k1, k2, k3, k5, hC, hbm⟩ := T.cls
  refine wpAny_Call_Name_kw (ld_glob I1 hg hm ?_ hdb)
  refine PySem.W.callWith_K0 I1.kIn T.kC ?_
  show wpAny _ _ (call (.ref C) []) _ _ _
  obtain ⟨hp, g, dr, tk, os⟩ := s1
  have hsz : hp.objs.size ≤ hp.objs.size + 1 := Nat.le_succ _
  have hn : H1 (hp.objs.size + 1) = none := I1.hok.fresh hsz
  have kk : ∀ b o, hp.get? b = some o → ((hp.push (PySem.W.kdv_tup [])).push (PySem.HandSPX.excO C hp.objs.size)).get? b = some o := fun b o e => Heap.get?_push_of_some _ (Heap.get?_push_of_some _ e)
  have hget : ((hp.push (PySem.W.kdv_tup [])).push (PySem.HandSPX.excO C hp.objs.size)).get? (hp.objs.size + 1) = some (PySem.HandSPX.excO C hp.objs.size) := by heap_get
  have I2 : Inv X pins σ (upd H1 (hp.objs.size + 1) (exo (hp.objs.size + 1) C none)) ⟨(hp.push (PySem.W.kdv_tup [])).push (PySem.HandSPX.excO C hp.objs.size), g, dr, tk, os⟩ :=
    I1.laid (t' := tk) (a := hp.objs.size + 1) (o := exo (hp.objs.size + 1) C none) (h' := (hp.push (PySem.W.kdv_tup [])).push (PySem.HandSPX.excO C hp.objs.size)) kk hsz (exo_ok hget)
  have hq : spInitN [V.ref (hp.objs.size + 1)] (upd H1 (hp.objs.size + 1) (exo (hp.objs.size + 1) C none)) (fun v H2 => v = .non ∧ H2 = upd H1 (hp.objs.size + 1) (exo (hp.objs.size + 1) C none)) (fun _ _ _ => False) := ⟨_, rfl, rfl, rfl⟩
  have r2 : Vals [V.ref (hp.objs.size + 1)] [Value.ref (hp.objs.size + 1)] := .cons rfl .nil
  have hl : ([Value.ref (hp.objs.size + 1)] ++ ([] : List Value)).length = ps.length := by
    rw [← F1.len _ _ _ _ hq]; rfl
  refine wpAny_call (PySem.HandSPX.call_own F.excBase_ValueError (fun Y => PySem.HandSPX.refsVE_contains Y bm hbm) (I1.kIn _ _ hC) (PySem.W.looks_findIn I1.kIn iC) (fun self => PySem.W.bind_fn I1.kIn self tI) (by show 0 ≤ sizeLine; decide)
    (codeAny_mono (F1.run _ X.stack _ _ ⟨[Value.ref (hp.objs.size + 1)], []⟩ [Value.ref (hp.objs.size + 1)] _ _ (fun _ _ _ => False) (hr.make C [] []) (I2.env0.make C [] []) (hb _ [Value.ref (hp.objs.size + 1)] I2.kIn hl) r2 hq) fun r s' hq' => ?_))
  cases r with
  | error er => exact hx pins σ _ _ er s' I2 hq'
  | ok fl =>
    cases fl with
    | ret u =>
      obtain ⟨v, H2, os2, bare2, un2, hok2, rv, ev, e2⟩ := hq'
      subst ev
      obtain ⟨h2, g2, d2, t2, os'⟩ := s'
      exact ⟨rv, mk_endN (raises_own T.exC T.tyC) I1 hsz kk un2 hok2 os2 bare2 e2 h⟩
    | next => exact False.elim hq'
    | brk => exact False.elim hq'
    | cont => exact False.elim hq'
end
end L2


set_option Elab.async false
set_option linter.all false
set_option maxRecDepth 100000
set_option maxHeartbeats 1000000
set_option autoImplicit false
namespace HT
open PySem PySem.Spec PyProof.Rows
section
variable {prog : Program} {w : World} {A : Around} {E : Value → Shared → Prop} {s : Shared}
theorem adjust_rev (n : Nat) : Builtin.Slice.sliceAdjust none none (-1) (n : Int) = ((n : Int) - 1, -1) := by
  unfold Builtin.Slice.sliceAdjust
  have h1 : ((-1 : Int) < 0) := by omega
  simp only [h1, if_true]
theorem places_rev (n : Nat) : Builtin.Slice.slicePlaces ((n : Int) - 1) (-1) (-1) = n := by
  unfold Builtin.Slice.slicePlaces
  have h1 : ¬ ((-1 : Int) > 0) := by omega
  simp only [h1, if_false]
  split <;> (try simp) <;> omega
theorem sliceApplied_rev {sl : Addr} {n : Nat} {t : Tok} {Q : Int × Int × Nat → Shared → Prop} (hs : s.heap.IsSliceOf sl .none .none (.int (-1) t))
    (h : Q ((n : Int) - 1, -1, n) s) : wpAny (model prog w) A (Builtin.Slice.sliceApplied (.ref sl) (pure (n : Int))) Q E s := by
  obtain ⟨os, hos, hcs, hds⟩ := id hs
  unfold Builtin.Slice.sliceApplied Builtin.Slice.sliceFields
  refine wpAny_bind (wpAny_bind (wpAny_field hos hds (x := .none) rfl (wpAny_bind (wpAny_field hos hds (x := .none) rfl (wpAny_bind (wpAny_field hos hds (x := .int (-1) t) rfl (wpAny_pure ?_)))))))
  refine wpAny_bind (slicePart_ (.int (-1) t) ?_)
  show wpAny _ _ (if ((-1 : Int) == 0) = true then _ else _) _ _ s
  rw [if_neg (by decide)]
  refine wpAny_bind (slicePart_ .none (wpAny_bind (slicePart_ .none (wpAny_bind (wpAny_pure ?_)))))
  show wpAny _ _ (match Builtin.Slice.sliceAdjust none none (-1) (n : Int) with | (lo, hi) => pure (lo, (-1 : Int), Builtin.Slice.slicePlaces lo hi (-1))) _ _ s
  rw [adjust_rev n]
  show wpAny _ _ (pure ((n : Int) - 1, (-1 : Int), Builtin.Slice.slicePlaces ((n : Int) - 1) (-1) (-1))) _ _ s
  rw [places_rev]
  exact wpAny_pure h
theorem fm_congr {α β : Type} {f g : α → Option β} : ∀ l : List α, (∀ x ∈ l, f x = g x) → l.filterMap f = l.filterMap g
  | [], _ => rfl
  | x :: l, h => by
    have e := h x List.mem_cons_self
    have r := fm_congr l fun y hy => h y (List.mem_cons_of_mem _ hy)
    rw [List.filterMap_cons, List.filterMap_cons, e, r]
theorem pick_rev (xs : Array Value) : ((List.range xs.size).filterMap fun (m : Nat) => xs[(((xs.size : Int) - 1) + (m : Int) * (-1)).toNat]?).toArray = xs.toList.reverse.toArray := by
  have e : (List.range xs.size).filterMap (fun (m : Nat) => xs[(((xs.size : Int) - 1) + (m : Int) * (-1)).toNat]?) = (List.range xs.size).filterMap ((xs[·]?) ∘ fun k => xs.size - 1 - k) :=
    fm_congr _ fun m hm => by
      have hm := List.mem_range.mp hm
      have e1 : (((xs.size : Int) - 1) + (m : Int) * (-1)).toNat = xs.size - 1 - m := by omega
      rw [e1]; rfl
  rw [e, ← List.filterMap_map, PySem.W.krv_range, List.filterMap_reverse, PySem.W.krv_all]
theorem getItem_tuple_rev {t sl : Addr} {items : Array Value} {u : Tok} {Q : Value → Shared → Prop} (ht : IsTup s.heap t items) (hs : s.heap.IsSliceOf sl .none .none (.int (-1) u))
    (h : Q (.ref s.heap.objs.size) { s with heap := s.heap.push { cls := .type "tuple", data := .seq items.toList.reverse.toArray } })
    (hsz : items.size ≤ sizeLine) : wpAny (model prog w) A (getItem (.ref t) (.ref sl)) Q E s := by
  have htake : sizeOk (.seq items.toList.reverse.toArray) := by
    show items.toList.reverse.toArray.size ≤ sizeLine
    rw [List.size_toArray, List.length_reverse, Array.length_toList]
    omega
  obtain ⟨os, hos, hcs, hds⟩ := id hs
  have hTs : s.TypeIs (.ref sl) "slice" := ⟨os, hos, hcs⟩
  unfold getItem
  try with_reducible refine wpAny_holding ?_
  first | refine wpAny_bind (wpAny_pure ?_) | skip
  refine wpAny_bind (wpAny_sequenceKey ht.typeIs (by decide) ?_)
  refine wpAny_bind (wpAny_callSpecial?_slot (name := Str.ofString "__getitem__") ht.typeIs PyProof.Rows.slot_tuple_getitem
    (wpAny_call_entry PyProof.Rows.slot_tuple_getitem ht.typeIs entry_tuple_getitem ?_ (args_tuple_getitem _ _)))
  show wpAny _ _ (Builtin.Tuple.tupleItemsOf (.ref t) >>= _) _ _ s
  refine wpAny_bind (tupleItemsOf_ ht ?_)
  refine wpAny_bind (wpAny_typeOf hTs ?_)
  rw [if_pos (by decide)]
  refine wpAny_bind (sliceApplied_rev hs ?_)
  have hno : ¬ ((((items.size : Int) - 1) == 0 && (-1 : Int) == 1 && items.size == items.size) = true) := by
    intro q
    rw [Bool.and_eq_true, Bool.and_eq_true] at q
    exact absurd q.1.2 (by decide)
  show wpAny _ _ (if (((items.size : Int) - 1) == 0 && (-1 : Int) == 1 && items.size == items.size) = true then _ else _) _ _ s
  rw [if_neg hno, pick_rev]
  first
    | exact wpAny_bind (m := Builtin.Tuple.tupleExact _) (wpAny_newObj_type (wpAny_pure ⟨_, rfl, wpAny_pure h⟩) htake)
    | exact wpAny_bind (m := Builtin.Tuple.tupleExact _) (wpAny_newObj_type (wpAny_bind (wpAny_pure (wpAny_pure ⟨_, rfl, wpAny_pure h⟩))) htake)
    | exact wpAny_bind (wpAny_bind (m := Builtin.Tuple.tupleExact _) (wpAny_newObj_type (wpAny_pure (wpAny_pure ⟨_, rfl, wpAny_pure h⟩)) htake))
    | exact wpAny_bind (wpAny_bind (m := Builtin.Tuple.tupleExact _) (wpAny_newObj_type (wpAny_pure ⟨_, rfl, wpAny_pure h⟩) htake))
end
end HT
namespace L2
open PySem PySem.Spec PyProof.Rows
section
variable {X : Cx}
/-- set(t), t a tuple of ints -/
def rSetT (K : PySem.W.Frag) (w : World) : List V → Hp → VK → Prop := fun xs H Q => ∃ (l : Addr) (ns : List Int), xs = [.ref l] ∧ SqT K H l (ns.map V.int) ∧ ns.length ≤ 1000 ∧
  ∀ a n, n ≤ ns.length → H a = none → Q (.ref a) (upd H a (SetO w a (fun j => decide (j ∈ ns)) n))
theorem cr_setT (hc : X.calm = true) : CallR X (.type "set") (rSetT X.K X.w) := by
  intro pins s σ H xs us Q I r h
  obtain ⟨l, ns, rfl, hq, hl, q⟩ := h
  obtain ⟨u, rfl, ru⟩ := vals1 r
  cases ru
  obtain ⟨its, rv, pt, hz⟩ := I.tuple hq
  have hi : IntsAre its.toArray.toList ns := ints_of_vals rv
  refine call_set_tupI ns (I.ok.hd hc) (show s.heap.IsTuple l its.toArray from pt) hi (by unfold scanBound; omega) fun h' tk c R1 hcn k => ?_
  exact ⟨.ref s.heap.objs.size, _, I.laid (t' := tk) (h' := h') (o := SetO X.w s.heap.objs.size (fun j => decide (j ∈ ns)) c) k (Nat.le_refl _) (setO_new R1), rfl, q _ c hcn (I.hok.fresh (Nat.le_refl _))⟩
def tRevT (K : PySem.W.Frag) (te : TE) : TE := fun σ H Q => te σ H fun x H1 => ∃ a xs, x = .ref a ∧ SqT K H1 a xs ∧ ∀ p, H1 p = none → Q (.ref p) (upd H1 p (.tup xs.reverse))
theorem pe_revT {e : Expr} {te : TE} {k : Nat} {p1 p2 p3 pos : Pos} (he : PE X e te) : PE X (.Subscript e (.Slice none none (some (.UnaryOp .USub (.Constant (.int 1) k p1) p2)) p3) pos) (tRevT X.K te) := by
  refine ⟨fun pins s σ H Q I h => ?_⟩
  refine Subscript_ (thn (he.run pins s σ H _ I h) fun v s1 ⟨x, H1, I1, r1, q1⟩ => ?_)
  obtain ⟨a, xs, ex, hx, q⟩ := q1
  subst ex
  cases r1
  have hst : PO X (some (.UnaryOp .USub (.Constant (.int 1) k p1) p2)) (tPart (tUn (rU fun i => .int (-i)) (tC (.int 1)))) := po_some (pe_un un_neg pe_int)
  refine wpAny_Slice (thn (po_none.run pins s1 σ H1 (fun o H2 => o = none ∧ H2 = H1) I1 ⟨rfl, rfl⟩) fun vl s2 ⟨l, H2, I2, pl, el, e2⟩ => ?_)
  subst el e2
  refine thn (po_none.run pins s2 σ H2 (fun o H3 => o = none ∧ H3 = H2) I2 ⟨rfl, rfl⟩) fun vu s3 ⟨u, H3, I3, pu, eu, e3⟩ => ?_
  subst eu e3
  refine thn (hst.run pins s3 σ H3 (fun o H4 => o = some (-1) ∧ H4 = H3) I3 ⟨1, rfl, -1, rfl, rfl, rfl⟩) fun vs s4 ⟨o, H4, I4, ps, eo, e4⟩ => ?_
  subst eo e4
  cases pl
  cases pu
  cases ps with
  | int _ tt =>
  have I5 : Inv X pins σ H4 { s4 with heap := s4.heap.push { cls := .type "slice", data := .fields #[.none, .none, .int (-1) tt] } } := I4.kept (t' := s4.toks) fun b ob q => Heap.get?_push_of_some _ q
  obtain ⟨its, r, ht, hz⟩ := I5.tuple hx
  have hlen := r.length
  show wpAny (model X.prog X.w) X.A (subscriptTail e (.Slice none none (some (.UnaryOp .USub (.Constant (.int 1) k p1) p2)) p3) (.ref a) (.ref s4.heap.objs.size)) (EP X pins σ Q) X.xe { s4 with heap := s4.heap.push { cls := .type "slice", data := .fields #[.none, .none, .int (-1) tt] } }
  refine tail_any (ops := [.ref a, .ref s4.heap.objs.size]) ht.typeIs (PyProof.Rows.slot_tuple_getitem.lookup) ?_ (by with_unfolding_all rfl)
  refine HT.getItem_tuple_rev ht (Heap.IsSliceOf.new _ .none .none (.int (-1) tt)) ?_ (by rw [List.size_toArray]; omega)
  refine ⟨.ref _, _, I5.laid (t' := s4.toks) (o := .tup xs.reverse) (fun b ob q => Heap.get?_push_of_some _ q) (Nat.le_refl _) ?_, rfl, q _ (I5.hok.fresh (Nat.le_refl _))⟩
  exact ⟨by rw [List.length_reverse]; exact hz, _, r.reverse, IsTup.new _ _⟩
end
end L2
namespace Hc
open PySem L2
/-- [f(a, b) for a, b in zip(s, t)]: two tuples, perhaps of unlike lengths -/
theorem lc_zipT {K : PySem.W.Frag} {a b : Addr} {xs ys : List V} {g : TG} {tt : TT} {te : TE} {vs : List Nat} {σ : St} {H1 : Hp} {D : Addr} {Qd : Hp → Prop} (Pv : Nat → Hp → Prop) (h0 : Pv 0 (upd H1 D (.lst [])))
    (hl : ∀ i H, Pv i H → SqT K H a xs ∧ SqT K H b ys)
    (hs : ∀ (i : Nat) (x y : V) (T : Addr) (H : Hp), xs[i]? = some x → ys[i]? = some y → Pv i H → H T = none → g (.ref T) (wipe σ vs) (upd H T (.tup [x, y])) fun σ2 H2 => wipe σ2 vs = wipe σ vs ∧ tt σ2 H2 fun b H3 =>
      if b = true then te σ2 H3 fun y H4 => ∃ acc, H4 D = some (.lst acc) ∧ acc.length < sizeLine ∧ Pv (i + 1) (upd H4 D (.lst (acc ++ [y]))) else Pv (i + 1) H3) (hd : ∀ H, Pv (min xs.length ys.length) H → Qd H) :
    ∃ W : Nat → Nat → Hp → Prop, (∃ m, W 0 m (upd H1 D (.lst []))) ∧ ∀ i m H, W i m H →
      ((RZ.ItzT K a b).stop i H ∧ Qd H) ∨ ((RZ.ItzT K a b).go i H ∧ ∃ Nx : Hp → Prop, (∀ H', Nx H' → ∃ m', m' < m ∧ W (i + 1) m' H') ∧ ∀ x H', (RZ.ItzT K a b).yld i H x H' → g x (wipe σ vs) H' fun σ2 H2 => wipe σ2 vs = wipe σ vs ∧ tt σ2 H2 fun b H3 =>
        if b = true then te σ2 H3 fun y H4 => ∃ acc, H4 D = some (.lst acc) ∧ acc.length < sizeLine ∧ Nx (upd H4 D (.lst (acc ++ [y]))) else Nx H3) := by
  refine ⟨fun i m H => m = min xs.length ys.length - i ∧ i ≤ min xs.length ys.length ∧ Pv i H, ⟨_, rfl, Nat.zero_le _, h0⟩, ?_⟩
  rintro i m H ⟨rfl, hi, p⟩
  obtain ⟨qx, qy⟩ := hl i H p
  by_cases hlt : i < min xs.length ys.length
  · have h1 : i < xs.length := by omega
    have h2 : i < ys.length := by omega
    refine .inr ⟨⟨xs, ys, _, _, qx, qy, List.getElem?_eq_getElem h1, List.getElem?_eq_getElem h2⟩, Pv (i + 1), fun H' p' => ⟨min xs.length ys.length - (i + 1), by omega, rfl, hlt, p'⟩, fun v H' y => ?_⟩
    obtain ⟨T, x', y', rfl, hT, rfl, f1, f2⟩ := y
    exact hs i x' y' T H (f1 xs qx) (f2 ys qy) p hT
  · have e : i = min xs.length ys.length := by omega
    subst e
    refine .inl ⟨⟨xs, ys, qx, qy, ?_⟩, hd H p⟩
    omega
end Hc


set_option Elab.async false
set_option linter.all false
set_option maxRecDepth 100000
set_option maxHeartbeats 2000000
set_option autoImplicit false
namespace L2
open PySem PySem.Spec PyProof.Rows
/-- what the first clause, 'except x as n', wishes of an exception that is its own; slot i is n's -/
def wAs1 (K : PySem.W.Frag) (c : Value) (i : Nat) (ts : Addr → Value → Option Addr → TS) (D : Ends) : WX := fun cls d σ H =>
  PySem.W.exmOne K cls c = some true ∧ ∀ a, H a = none → ts a cls d { nx := fun σ' H' => D.nx (σ'.set i none) H', rt := D.rt, bk := fun σ' H' => D.bk (σ'.set i none) H', ct := fun σ' H' => D.ct (σ'.set i none) H' } (σ.set i (some (.ref a))) H
section
variable {X : Cx} {x n : Str} {c : Value} {i : Nat} {body suite : List Stmt} {b₀ : Stmt} {np pos pos' : Pos} {tb : WX → TS} {ts : Addr → Value → Option Addr → TS} {more : List ExceptHandler}
theorem ps_try_as1 (hs : X.stack = X.env :: X.outer) (hf : X.env.frame = some X.env.locals) (hN : X.N.Nodup) (hi : X.N[i]? = some n) (hln : X.env.kindOf n = some .local) (hc : Names X x c)
    (hb : ∀ (W : WX) (pn : List (Addr × Obj)) (xe : Value → Shared → Prop), Takes (X.tr pn xe) W → PassesOwn (model X.prog X.w) X.A X.env xe → PSs (X.tr pn xe) body (tb W))
    (hsu : ∀ (a : Addr) (oe : Obj) (cls : Value) (d : Option Addr) (pn : List (Addr × Obj)), Zc cls d oe → (∃ vs, oe.data = .fields vs) → PSs (X.suite a ((a, oe) :: pn)) (b₀ :: suite) (ts a cls d)) :
    PS X (.Try body (.ExceptHandler (some (.Name x np)) (some n) (b₀ :: suite) pos' :: more) [] [] pos) (fun D σ H => tb (wAs1 X.K c i ts D) D σ H) := by
  refine ⟨fun pins s σ H D I h => ?_⟩
  have ok := I.ok
  have hfr : X.A.frames = some (X.env :: X.outer) := by rw [ok.frames, hs]
  have hloc : Loc X.env.scope n := .inl hln
  refine wpAny_Try_except ?_
  refine wpAny_mono ((hb (wAs1 X.K c i ts D) (X.pn ++ pins) (fun e s₁ => wpAny (model X.prog X.w) X.A (noteFrame e X.env) (fun _ s₂ => wpAny (model X.prog X.w) X.A (setFlight e none) (fun _ s₃ =>
    wpAny (model X.prog X.w) X.A (handleBy e X.env (.ExceptHandler (some (.Name x np)) (some n) (b₀ :: suite) pos' :: more)) (SP X pins D) X.xe s₃) X.xe s₂) X.xe s₁) (fun u s' xx => ?_) PassesOwn.looking).run [] s σ H D (I.toTry _) h) (fun f s1 hsp => ?_) (fun e s1 he => he)
  · obtain ⟨a, B, sI, pins', σ', H', cls, d, rfl, J', nb, up, sky, na, os, ag, hb1, hyes⟩ := xx
    have J : Inv X pins σ' H' sI := J'.ofTry ok
    have sky' : Sky B (X.env :: X.outer) a (Zc cls d) X.env.locals s'.heap := by rw [← hs]; exact sky
    show wpAny (model X.prog X.w) X.A (noteFrame (.ref a) X.env) _ _ _
    refine Sky.land Zc.steady hfr hf sky' fun h3 fl3 up3 => ?_
    have J3 : Inv X pins σ' H' { s' with heap := h3 } := J.landed nb fl3.1 (up.trans up3) os ag
    obtain ⟨oe3, vs3, he3, hz3, hd3⟩ := fl3.there
    have nfr : a ∉ frs (X.env :: X.outer) := fun hm => by
      obtain ⟨_, o', e', hnf⟩ := fl3.2.2.1.mem hm
      rw [he3] at e'; cases e'
      exact hnf _ hd3
    have nL : a ≠ X.env.locals := fun z => nfr (List.mem_filterMap.mpr ⟨X.env, List.mem_cons_self, by rw [hf, z]⟩)
    have nF : a ∉ X.fs := fun hm => by
      obtain ⟨e, he, q⟩ := List.mem_filterMap.mp hm
      exact nfr (List.mem_filterMap.mpr ⟨e, List.mem_cons_of_mem _ he, q⟩)
    have S3 := J3.suite he3 hd3 na nL nF
    refine wpAny_handleBy_cons (codeAny_handlers_test ?_) (by intro q; cases q)
    have LT : PySem.W.Looks (model X.prog X.w) h3 (typeOf (.ref a)) cls := fun A Q E s k q => wpAny_typeOf_ref (k _ _ he3) (by rw [hz3.1]; exact q)
    have LM := PySem.W.exm_one (M := model X.prog X.w) (J3.kIn) LT hb1
    have test : ∀ {Q : Value → Shared → Prop} {E : Value → Shared → Prop}, Q c { s' with heap := h3 } → wpAny (model X.prog X.w) (X.A.mark (some (.ref a))) (eval (.Name x np) X.env) Q E { s' with heap := h3 } := fun {Q E} q => by
      obtain ⟨hg, hdbg, hm | ⟨hm, hv, hnn⟩⟩ := hc
      · exact ld_glob (X := X.suite a ((a, oe3) :: (X.pn ++ pins))) S3 hg hm q hdbg
      · exact ld_blt (X := X.suite a ((a, oe3) :: (X.pn ++ pins))) S3 hg hm hv q hnn hdbg
    refine test (LM.here ?_)
    refine codeAny_handlers_suite_as ?_
    refine HandSPX.lands_againZ fl3 fun h4 fl4 up4 => ?_
    have J4 : Inv X pins σ' H' { s' with heap := h4 } := J.landed nb fl4.1 ((up.trans up3).trans up4) os ag
    obtain ⟨oe4, vs4, he4, hz4, hd4⟩ := fl4.there
    have S4 := J4.suite he4 hd4 na nL nF
    refine store_ok (X := X.suite a ((a, oe4) :: (X.pn ++ pins))) (v := .ref a) S4 hN hi hloc rfl (fun s5 S5 => ?_) (.inr hln)
    refine wpAny_mono ((hsu a oe4 cls d (X.pn ++ pins) hz4 ⟨_, hd4⟩).run [] s5 _ H' _ S5 (hyes a na)) (fun f s6 hsp => ?_) (fun _ _ z => False.elim z)
    have end_ : ∀ {σ6 : St} {H6 : Hp} {Q : Shared → Prop}, Inv (X.suite a ((a, oe4) :: (X.pn ++ pins))) [] σ6 H6 s6 → (∀ s7, Inv X pins (σ6.set i none) H6 s7 → Q s7) →
        wpAny (model X.prog X.w) X.A (do bindName X.env n .none; unbindBehindTheSuite X.env n pos') (fun _ s7 => Q s7) X.xe s6 := fun {σ6 H6 Q} S6 hq => gone_ok (S6.unsuite ok) hN hi hln hq
    cases f with
    | next =>
      obtain ⟨σ6, H6, S6, q6⟩ := hsp
      exact end_ S6 fun s7 J7 => ⟨_, _, J7, q6⟩
    | brk =>
      obtain ⟨σ6, H6, S6, q6⟩ := hsp
      exact end_ S6 fun s7 J7 => ⟨_, _, J7, q6⟩
    | cont =>
      obtain ⟨σ6, H6, S6, q6⟩ := hsp
      exact end_ S6 fun s7 J7 => ⟨_, _, J7, q6⟩
    | ret u =>
      obtain ⟨v6, σ6, H6, S6, r6, q6⟩ := hsp
      exact end_ S6 fun s7 J7 => ⟨_, _, _, J7, r6, q6⟩
  · cases f with
    | next =>
      obtain ⟨σ', H', J', q⟩ := hsp
      exact wpAny_execs_nil ⟨σ', H', J'.ofTry ok, q⟩
    | brk =>
      obtain ⟨σ', H', J', q⟩ := hsp
      exact ⟨σ', H', J'.ofTry ok, q⟩
    | cont =>
      obtain ⟨σ', H', J', q⟩ := hsp
      exact ⟨σ', H', J'.ofTry ok, q⟩
    | ret u =>
      obtain ⟨v, σ', H', J', r, q⟩ := hsp
      exact ⟨v, σ', H', J'.ofTry ok, r, q⟩
end
end L2


set_option Elab.async false
set_option linter.all false
set_option maxRecDepth 100000
set_option maxHeartbeats 1000000
set_option autoImplicit false
namespace PyProof.Rows
open PySem PySem.Spec
section
variable {prog : Program} {w : World} {A : Around} {E : Value → Shared → Prop} {s : Shared}
theorem collect_tupleH {l : Addr} {vs : List Value} {Q : List Value → Shared → Prop} (hl : s.heap.IsTuple l vs.toArray)
    (h : Q vs { s with heap := (s.heap.push (seqObj "list" #[] 0)).update s.heap.objs.size (Obj.mapSeq (· ++ vs.toArray)) }) (hsz : vs.length ≤ sizeLine) :
    wpAny (model prog w) A (collect (.ref l)) Q E s := by
  obtain ⟨o, ho, hc, n, hd⟩ := id hl
  unfold collect
  refine wpAny_bind (wpAny_runValue (codeAny_builtin entry_proto_collect' ?_))
  show wpAny _ _ (do again (.builtin "list.__iadd__" ⟨[← newList [], .ref l], []⟩)) _ _ s
  refine wpAny_bind (wpAny_newList (wpAny_pure ⟨Code.quiet_builtin _ (by decide +kernel), codeAny_builtin entry_list_iadd' ?_⟩))
  show wpAny _ _ (Builtin.List.listExtendWith (.ref s.heap.objs.size) (.ref l) (.ref s.heap.objs.size)) _ _ { s with heap := s.heap.push (seqObj "list" #[] 0) }
  unfold Builtin.List.listExtendWith
  have ho' : (s.heap.push (seqObj "list" #[] 0)).get? l = some o := Heap.get?_push_of_some _ ho
  refine wpAny_bind (wpAny_typeOf (T := "tuple") ⟨o, ho', hc⟩ ?_)
  have ht : (Value.type "tuple" == Value.type "tuple") = true := by rfl
  rw [if_pos (by rw [ht]; simp)]
  refine wpAny_bind (listItems_at ho' hd ?_)
  refine wpAny_bind (listItems_at (xs := #[]) (n := 0) (Heap.get?_push_size _ rfl) rfl ?_)
  rw [if_neg (by simp)]
  refine wpAny_bind (listUpdate_at (xs := #[]) (n := 0) (Heap.get?_push_size _ rfl) rfl ?_ (Nat.zero_le _) (by show (#[] ++ vs.toArray).size ≤ sizeLine + 1; simp only [Array.size_append, List.size_toArray, List.length_nil]; omega))
  refine wpAny_pure ?_
  show wpAny (model prog w) A (do
      let o ← load s.heap.objs.size
      match o.data with
      | .seq xs _ => pure xs.toList
      | _ => unsupported "internal:collect") Q E { s with heap := (s.heap.push (seqObj "list" #[] 0)).update s.heap.objs.size (Obj.mapSeq (· ++ vs.toArray)) }
  refine wpAny_bind (wpAny_load (get?_update_seq (Heap.get?_push_size _ rfl) _) ?_)
  show wpAny _ _ (pure ((#[] : Array Value) ++ vs.toArray).toList) Q E _
  rw [show ((#[] : Array Value) ++ vs.toArray).toList = vs by simp]
  exact wpAny_pure h
theorem sorted_intsT {l : Addr} {vs : List Value} {ns : List Int} {Q : Value → Shared → Prop} (hl : s.heap.IsTuple l vs.toArray) (hI : IntsAre vs ns) (h64 : vs.length < 64)
    (h : ∀ (out : Array Value) (ns' : List Int), IntsAre out.toList ns' → ns'.Perm ns → ns'.Pairwise (· ≤ ·) → Q (.ref (s.heap.objs.size + 1)) { s with heap := sortedAll s.heap vs out }) :
    wpAny (model prog w) A (call (.builtin "sorted") [.ref l]) Q E s := by
  refine Calls.call_function_entry kind_sorted plain_sorted entry_sorted (args_sorted1 _) ?_
  unfold Builtin.«sorted»
  refine wpAny_bind (m := checkCount "sorted" 1 1 _) (wpAny_pure ?_)
  refine wpAny_bind (collect_tupleH hl ?_ (by rw [sizeLine_eq]; omega))
  refine wpAny_bind (wpAny_newList ?_ (by rw [sizeLine_eq]; omega))
  have hsz : ((s.heap.push (seqObj "list" #[] 0)).update s.heap.objs.size (Obj.mapSeq (· ++ vs.toArray))).objs.size = s.heap.objs.size + 1 := by
    rw [Heap.size_update, size_push']
  have hoL : (((s.heap.push (seqObj "list" #[] 0)).update s.heap.objs.size (Obj.mapSeq (· ++ vs.toArray))).push (seqObj "list" vs.toArray 0)).get? (s.heap.objs.size + 1) = some (seqObj "list" vs.toArray 0) := by
    rw [← hsz]; exact Heap.get?_push_size _ rfl
  show wpAny _ _ _ _ _ { s with heap := ((s.heap.push (seqObj "list" #[] 0)).update s.heap.objs.size (Obj.mapSeq (· ++ vs.toArray))).push (seqObj "list" vs.toArray 0) }
  rw [hsz]
  refine wpAny_bind (wpAny_holding (wpAny_call_entry slot_list_sort ⟨_, hoL, rfl⟩ entry_list_sort (list_sort_tree hoL hI h64 fun out ns' a1 a2 a3 => ⟨_, rfl, ?_⟩) (args_list_sort _)))
  exact wpAny_pure ⟨_, rfl, h out ns' a1 a2 a3⟩
end
end PyProof.Rows
namespace L2
open PySem PySem.Spec PyProof.Rows
def rSortT (K : PySem.W.Frag) : List V → Hp → VK → Prop := fun vs H Q => ∃ (a : Addr) (ns : List Int), vs = [V.ref a] ∧ SqT K H a (ns.map V.int) ∧ ns.length < 64 ∧
  ∀ (ns' : List Int) (p : Addr), ns'.Perm ns → ns'.Pairwise (· ≤ ·) → H p = none → Q (.ref p) (upd H p (.lst (ns'.map V.int)))
theorem cr_sortT1 {X : Cx} : CallR X (.builtin "sorted") (rSortT X.K) := by
  intro pins s σ H vs us Q I r h
  obtain ⟨a, ns, rfl, hs, h64, q⟩ := h
  obtain ⟨its, rv, hl, _⟩ := I.tuple hs
  rw [Vals.ref1 r]
  have hi := rv.ints
  refine PyProof.Rows.sorted_intsT (show s.heap.IsTuple a its.toArray from hl) hi (by rw [hi.length]; exact h64) fun out ns' h1 h2 h3 => ?_
  obtain ⟨ep, he'⟩ := PyProof.Rows.sortedAll_at s.heap its out
  have hlen : (ns'.map V.int).length ≤ sizeLine := by rw [List.length_map, h2.length_eq]; exact small64 h64
  exact ⟨.ref _, upd H (s.heap.objs.size + 1) (.lst (ns'.map V.int)), I.laid (t' := s.toks) (fun _ _ => PyProof.Rows.sortedAll_old) (Nat.le_succ _) ⟨hlen, out.toList, ep, vals_of_ints h1, he'⟩, rfl, q ns' _ h2 h3 (I.hok.fresh (Nat.le_succ _))⟩
end L2


set_option Elab.async false
set_option linter.all false
set_option maxRecDepth 100000
set_option maxHeartbeats 1000000
set_option autoImplicit false
namespace L2
open PySem PySem.Spec PyProof.Rows
section
variable {X : Cx} {pins : List (Addr × Obj)} {σ : St} {H : Hp} {s : Shared} {d : Addr} {o : Obj}
theorem Inv.frzT2 {kvs : List (List Key × V)} (I : Inv X pins σ H s) (h : H d = some (.frz o (.dT kvs))) :
    (d == sysModules) = false ∧ s.heap.get? d = some o ∧ o.ExactDict ∧ ∃ (es : Array DictEntry) (ep : Nat), o.data = .dict es ep ∧ es.size = kvs.length ∧
      ∀ (i : Nat) (k : List Key) (v : V), kvs[i]? = some (k, v) → ∃ (en : DictEntry) (q : Addr), es[i]? = some en ∧ en.key = .ref q ∧ H q = some (.tup (k.map kV)) ∧ RelV v en.val := by
  obtain ⟨hd, z, hs, xs, pr, o', es, ep, ho, hx, hdt, he, _⟩ := I.hok d _ h
  rw [hd] at ho
  cases ho
  refine ⟨hs, hd, hx, es, ep, hdt, ?_, fun i k v e => ?_⟩
  · have l1 : es.size = xs.length := size_of_entries he
    have l2 : kvs.length = xs.length := Paired.length pr
    omega
  · obtain ⟨b, hb, e1, e2, e3⟩ := paired_get pr e
    have q := entry_at he i
    rw [hb] at q
    exact ⟨_, b.2.1, q, rfl, e2, e3⟩
end
/-- the pairs of a dict with tuple keys, each a new tuple of the key's own tuple and the value -/
def Itit (d : Addr) (o : Obj) (kvs : List (List Key × V)) : It :=
  ⟨fun i H => H d = some (.frz o (.dT kvs)) ∧ i < kvs.length, fun i H x H' => ∃ (T : Addr) (k : List Key) (v : V) (q : Addr), kvs[i]? = some (k, v) ∧ x = .ref T ∧ H T = none ∧ H q = some (.tup (k.map kV)) ∧ H' = upd H T (.tup [.ref q, v]), fun i H => H d = some (.frz o (.dT kvs)) ∧ kvs.length ≤ i⟩
section
variable {P : Program} {w : World} {K : PySem.W.Frag} {tg : Expr} {d : Addr} {o : Obj} {es : Array DictEntry} {ep : Nat}
theorem turn_itemsT {kvs : List (List Key × V)} {elts : List Expr} {kk : Nat} {tpos : Pos} (it : Addr) (hod : o.data = .dict es ep) :
    Turn P w K (.Tuple elts kk tpos) (Itit d o kvs) [it] it (fun i h => ∃ ok ov, IsItemIter h it d i kvs.length ep ok ov) where
  mem := by simp
  obj := fun i h st b hb => by
    have e : b = it := by simpa using hb
    subst e
    obtain ⟨ok, ov, e⟩ := st
    exact ⟨_, e, fun v z => nomatch z⟩
  keep := fun i h h' st k => let ⟨ok, ov, e⟩ := st; ⟨ok, ov, k it (by simp) _ e⟩
  item := by
    intro X hP hw hK hc i pins s σ H E I hf st hg
    subst hP hw hK
    obtain ⟨hd, hi⟩ := hg
    obtain ⟨hs, hgd, hx, es', ep', hdt, hsz, ent⟩ := I.frzT2 hd
    obtain ⟨rfl, rfl⟩ := dict_ep hod hdt
    obtain ⟨⟨k, v⟩, hkv⟩ : ∃ p, kvs[i]? = some p := ⟨kvs[i], List.getElem?_eq_getElem hi⟩
    obtain ⟨en, q, hen, hkey, hq, ru⟩ := ent i k v hkv
    obtain ⟨ok, ov, he⟩ := st
    have he0 := he
    rw [← hsz] at he
    have hlt : it < s.heap.objs.size := Heap.lt_size he
    have hm : s.heap.DictRaw d es' ep' := ⟨o, hgd, hx, hdt⟩
    have hlt' : i < es'.size := by omega
    have e1 : es'[i] = en := by
      rw [Array.getElem?_eq_getElem hlt'] at hen
      exact Option.some.inj hen
    refine wpAny_pyNext_items_item_raw he hm hlt' fun h' ho hT hz hk => ?_
    rw [e1] at ho hT
    refine ⟨_, rfl, wpAny_letOwnedTupleGo_items (s := { s with heap := h' }) ho fun h'' he' sb => ?_⟩
    have hT2 : h''.get? s.heap.objs.size = some { cls := .type "tuple", data := .seq #[en.key, en.val] } := (sb.2 _ (Nat.ne_of_gt hlt)).trans hT
    have rk : RelV (.ref q) en.key := by rw [hkey]; exact rfl
    have new : ObjOk X.prog X.w (upd H s.heap.objs.size (.tup [.ref q, v])) h'' s.heap.objs.size (.tup [.ref q, v]) :=
      ⟨by show 2 ≤ sizeLine; decide, [en.key, en.val], .cons rk (.cons ru .nil), ⟨_, hT2, rfl, _, rfl⟩⟩
    have I1 : Inv X pins σ (upd H s.heap.objs.size (.tup [.ref q, v])) { s with heap := h'' } :=
      I.turnedNew (t' := s.toks) (ch := [it]) (fun b ob hb e => (sb.2 b (by simpa using hb)).trans (hk b ob (by simpa using hb) e)) hf (Nat.le_refl _) new
    refine ⟨.ref s.heap.objs.size, _, I1, rfl, ⟨_, k, v, q, hkv, rfl, I.hok.fresh (Nat.le_refl _), hq, rfl⟩, ⟨en.key, en.val, ?_⟩, fun b hb => ?_⟩
    · rw [← hsz]; exact he'
    · have e : b = it := by simpa using hb
      rw [e, upd_ne (Nat.ne_of_lt hlt)]
      exact (hf it (by simp)).1
  done := by
    intro X hP hw hK hc i pins s σ H E I hf st hg
    subst hP hw hK
    obtain ⟨hd, hi⟩ := hg
    obtain ⟨f0, f1, f2, f3, f4, f5⟩ := hf it (by simp)
    obtain ⟨hs, hgd, hx, es', ep', hdt, hsz, ent⟩ := I.frzT2 hd
    obtain ⟨rfl, rfl⟩ := dict_ep hod hdt
    obtain ⟨ok, ov, he⟩ := st
    rw [← hsz] at he
    exact wpAny_pyNext_items_end_raw (I.ok.hd hc) he ⟨o, hgd, hx, hdt⟩ (by omega) fun h' eb => ⟨rfl, I.turned (t' := s.toks) (fun b ob hb e => eb b ob hb e) f0 f1 f3 f4 f5⟩
  self := fun A i s Q E st h => let ⟨_, _, e⟩ := st; PySem.W.kcp_self e h
end
def iItemsT (td : TE) : TI := fun σ H R => td σ H fun x H1 => ∃ d o kvs, x = .ref d ∧ H1 d = some (.frz o (.dT kvs)) ∧ R (Itit d o kvs) H1
section
variable {X : Cx} {tg e : Expr} {td : TE} {apos cpos : Pos}
theorem pi_itemsT {elts : List Expr} {kk : Nat} {tpos : Pos} (he : PE X e td) (hbase : attributeBase e "items" X.env (eval e X.env) = eval e X.env := by rfl) (hline : (apos.endLine == cpos.line) = true := by rfl) :
    PI X (.Tuple elts kk tpos) (.Call (.Attribute e "items" apos) [] [] cpos) (iItemsT td) := by
  refine ⟨fun pins s σ H R I h => ?_⟩
  refine wpAny_Call_method (T := "dict") (id := "dict.items") hbase rfl hline F.plainAttrs_dict F.slot_dict_items F.type_dict_items (thn (he.run pins s σ H _ I h) fun u s1 ⟨x, H1, I1, rx, d, o, kvs, ex, hd, q⟩ => ?_)
  subst ex
  obtain rfl : u = Value.ref d := rx
  obtain ⟨hs, hgd, hx, es, ep, hdt, hsz, ent⟩ := I1.frzT2 hd
  have hm : s1.heap.DictRaw d es ep := ⟨o, hgd, hx, hdt⟩
  obtain ⟨z, _, xs, _, dd⟩ := dt_rd I1.hok (.inr ⟨o, hd⟩)
  refine ⟨hm.typeIs, fun b e => by cases e; exact ⟨o, hgd, hx.2.1⟩, ?_⟩
  have I2 : Inv X pins σ H1 { s1 with heap := s1.heap.push { cls := .type "dict_items", data := .fields #[.ref d] } } := I1.kept (t' := s1.toks) fun b ob q => Heap.get?_push_of_some _ q
  have fin : wpAny (model X.prog X.w) X.A (pyIter (.ref s1.heap.objs.size)) (PIE X pins σ (.Tuple elts kk tpos) R) X.xe { s1 with heap := s1.heap.push { cls := .type "dict_items", data := .fields #[.ref d] } } := by
    refine wpAny_pyIter_items_raw (d := d) (es := es) (ep := ep) ⟨_, Heap.get?_push_size _ rfl, rfl, rfl⟩ (hm.at fun o e => Heap.get?_push_of_some _ e) (pi_one (tk := s1.toks) I2 _ (turn_itemsT _ hdt) ⟨.none, .none, ?_⟩ q)
    rw [← hsz]
    exact Heap.get?_push_size _ rfl
  show wpAny _ _ (callWith cpos (.builtin "dict.items") [.ref d] [] []) _ X.xe s1
  exact method_meetsIn F.slot_dict_items F.entry_dict_items rfl (PySem.evalArgs_none ⟨rfl, hm.typeIs, F.args_dict_items_1 _, _, meets_dict_items_raw d hs, ⟨es, ep, hm⟩, fin⟩)
end
end L2


set_option Elab.async false
set_option linter.all false
set_option maxRecDepth 100000
set_option maxHeartbeats 1000000
set_option autoImplicit false
namespace L2
open PySem PySem.Spec PyProof.Rows
/-- zip of the tuple at a and the list at b, both as they stand at each turn -/
def ItzM (K : PySem.W.Frag) (a b : Addr) : It where
  go i H := ∃ (xs ys : List V) (x y : V), SqT K H a xs ∧ SqL K H b ys ∧ xs[i]? = some x ∧ ys[i]? = some y
  yld i H v H' := ∃ T x y, v = .ref T ∧ H T = none ∧ H' = upd H T (.tup [x, y]) ∧ (∀ xs, SqT K H a xs → xs[i]? = some x) ∧ ∀ ys, SqL K H b ys → ys[i]? = some y
  stop i H := ∃ xs ys : List V, SqT K H a xs ∧ SqL K H b ys ∧ i ≤ xs.length ∧ i ≤ ys.length ∧ (i = xs.length ∨ i = ys.length)
/-- where the mixed zip stands -/
structure ZmAt (z TI TO i1 i2 a b : Addr) (i : Nat) (h : Heap) : Prop where
  zip : IsZip h z TI TO .none
  ins : IsTupOf2 h TI (.ref i1) (.ref i2)
  out : ∃ x y, IsTupOf2 h TO x y
  it1 : h.IsTupleIter i1 a i
  it2 : h.IsListIter i2 b i
theorem sep_of {z TI TO i1 i2 a b : Addr} (D : ZipApart z TI TO i1 i2 a b) : ZipSep2 z TI TO i1 i2 [i1, a] [i2, b] where
  TIz := D.TIz
  TOz := D.TOz
  TITO := D.TITO
  TIi1 := D.TIi1
  mem1 := by simp
  zf1 := by simp [D.i1z.symm, D.l1z.symm]
  Tf1 := by simp [D.TOi1, D.l1TO.symm]
  TIi2 := D.TIi2
  mem2 := by simp
  zf2 := by simp [D.i2z.symm, D.l2z.symm]
  Tf2 := by simp [D.TOi2, D.l2TO.symm]
  sep1_2 := by simp [D.i12, D.l2i1.symm]
  sep2_1 := by simp [D.i12.symm, D.l1i2.symm]
theorem cells5 {z TI TO i1 i2 a b : Addr} {i : Nat} {h : Heap} (st : ZmAt z TI TO i1 i2 a b i h) {c : Addr} (hc : c ∈ [z, TI, TO, i1, i2]) : ∃ o, h.get? c = some o ∧ ∀ v, o.data ≠ .cell v := by
  obtain ⟨hz, hI, ⟨x, y, hO⟩, ⟨o1, e1, _, d1⟩, ⟨o2, e2, _, d2⟩⟩ := st
  simp only [List.mem_cons, List.not_mem_nil, or_false] at hc
  rcases hc with rfl | rfl | rfl | rfl | rfl
  · exact ⟨_, hz, fun v => nofun⟩
  · exact ⟨_, hI, fun v => nofun⟩
  · exact ⟨_, hO, fun v => nofun⟩
  · exact ⟨o1, e1, fun v q => by rw [d1] at q; cases q⟩
  · exact ⟨o2, e2, fun v q => by rw [d2] at q; cases q⟩
theorem ZmAt.keeps {z TI TO i1 i2 a b : Addr} {i : Nat} {h h' : Heap} (st : ZmAt z TI TO i1 i2 a b i h) (k : ∀ c ∈ [z, TI, TO, i1, i2], ∀ o, h.get? c = some o → h'.get? c = some o) : ZmAt z TI TO i1 i2 a b i h' where
  zip := k z (by simp) _ st.zip
  ins := k TI (by simp) _ st.ins
  out := let ⟨x, y, e⟩ := st.out; ⟨x, y, k TO (by simp) _ e⟩
  it1 := st.it1.at fun o e => k i1 (by simp) o e
  it2 := st.it2.at fun o e => k i2 (by simp) o e
theorem turn_zipM {P : Program} {w : World} {K : PySem.W.Frag} {elts : List Expr} {kk : Nat} {tpos : Pos} {a b z TI TO i1 i2 : Addr} (D : ZipApart z TI TO i1 i2 a b) :
    Turn P w K (.Tuple elts kk tpos) (ItzM K a b) [z, TI, TO, i1, i2] z (ZmAt z TI TO i1 i2 a b) where
  mem := List.mem_cons_self
  obj i h st c hc := cells5 st hc
  keep i h h' st k := st.keeps k
  item := by
    intro X hP hw hK hc i pins s σ H E I hf st hg
    subst hP hw hK
    obtain ⟨xs, ys, x, y, qx, qy, hx, hy⟩ := hg
    obtain ⟨us, ru, pu, _⟩ := I.tuple qx
    obtain ⟨ws, rw', pw, _⟩ := I.list qy
    have hh : X.A.in1.handled = none := I.ok.hd hc
    have nx : i < us.toArray.size := by
      have := ru.length
      have := (List.getElem?_eq_some_iff.mp hx).1
      simp only [List.size_toArray]; omega
    have ny : i < ws.toArray.size := by
      have := rw'.length
      have := (List.getElem?_eq_some_iff.mp hy).1
      simp only [List.size_toArray]; omega
    obtain ⟨a1, a2, hO⟩ := st.out
    have lc : ∀ {c : Addr}, c ∈ [z, TI, TO, i1, i2] → c < s.heap.objs.size := fun hm => let ⟨_, e, _⟩ := cells5 st hm; Heap.lt_size e
    refine wpAny_pyNext_zipD2_item (sep_of D) (Draws.tuple hh i1 a D.l1i1 us.toArray) (Draws.list hh i2 b D.l2i2 ws.toArray) st.zip st.ins hO ⟨st.it1, pu⟩ ⟨st.it2, pw.isList⟩ nx ny fun x1 x2 h' tk y1 y2 z' O' s1 s2 hT hsz hk => ?_
    obtain ⟨u1, eu1, r1⟩ := ru.get hx
    obtain ⟨u2, eu2, r2⟩ := rw'.get hy
    have e1 : x1 = u1 := Option.some.inj (y1.symm.trans (by simpa using eu1))
    have e2 : x2 = u2 := Option.some.inj (y2.symm.trans (by simpa using eu2))
    subst e1 e2
    refine ⟨_, rfl, wpAny_letOwnedTupleGo_zip (s := { s with heap := h', toks := tk }) z' fun g gz sb => ?_⟩
    have gT : g.get? s.heap.objs.size = some { cls := .type "tuple", data := .seq #[x1, x2] } := (sb.2 _ (Nat.ne_of_gt (lc (by simp)))).trans hT
    have I1 : Inv X pins σ (upd H s.heap.objs.size (.tup [x, y])) { s with heap := g, toks := tk } :=
      I.turnedNew (ch := [z, TI, TO, i1, i2]) (fun c o nc e => by
        simp only [List.mem_cons, List.not_mem_nil, or_false, not_or] at nc
        exact (sb.2 c nc.1).trans (hk c o nc.1 nc.2.2.1 nc.2.2.2.1 nc.2.2.2.2 e)) hf (Nat.le_refl _) ⟨by show 2 ≤ sizeLine; decide, [x1, x2], .cons r1 (.cons r2 .nil), ⟨_, gT, rfl, _, rfl⟩⟩
    refine ⟨.ref s.heap.objs.size, _, I1, rfl, ⟨_, x, y, rfl, I.hok.fresh (Nat.le_refl _), rfl, fun l hl => ?_, fun l hl => ?_⟩, ⟨gz, ?_, ⟨x1, x2, ?_⟩, ?_, ?_⟩, fun c hm => ?_⟩
    · rw [I.tuple_inj hl qx]; exact hx
    · rw [I.list_inj hl qy]; exact hy
    · exact (sb.2 _ D.TIz).trans (hk _ _ D.TIz D.TITO D.TIi1 D.TIi2 st.ins)
    · exact (sb.2 _ D.TOz).trans O'
    · exact s1.1.at fun o q => (sb.2 _ D.i1z).trans q
    · exact s2.1.at fun o q => (sb.2 _ D.i2z).trans q
    · rw [upd_ne (Nat.ne_of_lt (lc hm))]
      exact (hf c hm).1
  done := by
    intro X hP hw hK hc i pins s σ H E I hf st hg
    subst hP hw hK
    obtain ⟨xs, ys, qx, qy, h1, h2, h3⟩ := hg
    obtain ⟨us, ru, pu, _⟩ := I.tuple qx
    obtain ⟨ws, rw', pw, _⟩ := I.list qy
    have hh : X.A.in1.handled = none := I.ok.hd hc
    obtain ⟨a1, a2, hO⟩ := st.out
    have l1 := ru.length
    have l2 := rw'.length
    exact wpAny_pyNext_zipD2_end (sep_of D) (Draws.tuple hh i1 a D.l1i1 us.toArray) (Draws.list hh i2 b D.l2i2 ws.toArray) st.zip st.ins hO ⟨st.it1, pu⟩ ⟨st.it2, pw.isList⟩
      (by simp only [List.size_toArray]; omega) (by simp only [List.size_toArray]; omega) (by simp only [List.size_toArray]; omega) fun h' tk hk => ⟨rfl, I.turnedL (ch := [z, TI, TO, i1, i2]) (fun c o nc e => by
        simp only [List.mem_cons, List.not_mem_nil, or_false, not_or] at nc
        exact hk c o nc.1 nc.2.2.1 nc.2.2.2.1 nc.2.2.2.2 e) hf⟩
  self A i s Q E st h := wpAny_pyIter_zip st.zip h
def iZipM (K : PySem.W.Frag) (ta : TA) : TI := fun σ H R => ta σ H fun vs H1 => ∃ a b xs ys, vs = [.ref a, .ref b] ∧ SqT K H1 a xs ∧ SqL K H1 b ys ∧ R (ItzM K a b) H1
theorem pi_zipM {X : Cx} {e e2 : Expr} {ta : TA} {p pos tpos : Pos} {elts : List Expr} {kk : Nat} (hg : Gl X "zip") (hm : X.mg "zip" = none) (ha : PA X [e, e2] ta)
    (hs : starEach [e, e2] X.env = (false, eval e X.env) :: starEach [e2] X.env := by rfl) (hpl : (backTo pos (starEach [e2] X.env)).any (·.1) = false := by rfl) :
    PI X (.Tuple elts kk tpos) (.Call (.Name "zip" p) [e, e2] [] pos) (iZipM X.K ta) where
  run pins s σ H R I h := by
    refine Call_ (ld_blt I hg hm PyProof.Rows.boot_zip (PyProof.Rows.callWith_type1 (thn (ha.run pos pins s σ H _ I h) fun us s1 ⟨vs, H1, I1, r1, a, b, xs, ys, ev, qx, qy, q⟩ => ?_) hs hpl))
    subst ev
    cases r1 with
    | cons ra rr =>
    cases rr with
    | cons rb rr =>
    cases rr
    cases ra
    cases rb
    obtain ⟨us, _, pu, _⟩ := I1.tuple qx
    obtain ⟨ws, _, pw, _⟩ := I1.list qy
    have la : a < s1.heap.objs.size := let ⟨o, e, _⟩ := pu; Heap.lt_size e
    refine zip_begins2 (begins_tuple a us.toArray) (begins_list b ws.toArray) pu pw.isList fun h' hz hI hO h1 h2 hsz hk => wpAny_pyIter_zip hz ?_
    refine ⟨s1.heap.objs.size + 4, [s1.heap.objs.size + 4, s1.heap.objs.size + 2, s1.heap.objs.size + 3, s1.heap.objs.size, s1.heap.objs.size + 1], _, _, H1, rfl, I1.kept (t' := s1.toks) hk, turn_zipM (PySem.W.ktu_apart s1.heap.objs.size a b la pw.lt), ⟨hz, hI, ⟨_, _, hO⟩, ⟨_, h1, rfl, rfl⟩, ⟨_, h2, rfl, rfl⟩⟩, fun c hc => ?_, q⟩
    have hle : s1.heap.objs.size ≤ c := by
      simp only [List.mem_cons, List.not_mem_nil, or_false] at hc
      rcases hc with rfl | rfl | rfl | rfl | rfl <;> omega
    exact I1.fpOk hle (I1.hok.fresh hle)
end L2


set_option Elab.async false
set_option linter.all false
set_option maxRecDepth 100000
set_option maxHeartbeats 4000000
set_option autoImplicit false
namespace Hc
open PySem L2
def top (i : Nat) : Stmt := PySem.Challenge.pw_hourcards_k18_first_wrong_lines_of_days.main.body.getD i (.Pass ⟨0, 0, 0, 0⟩)
structure Df (K : PySem.W.Frag) (mg : Str → Option Value) (x : Str) (st : Stmt) (ps : List Str) : Type where
  f : Addr
  fd : FuncData
  F : Fun K x x st f fd
  g : mg x = some (.ref f)
  b : Binds K fd ps []
/-- an own class -/
structure Wf (K : PySem.W.Frag) (mg : Str → Option Value) (x q : Str) (st : Stmt) (ps fs : List Str) : Type where
  C : Addr
  f : Addr
  fd : FuncData
  F : Fun K "__init__" q st f fd
  g : mg x = some (.ref C)
  b : Binds K fd ps []
  mk1 : Mk K C f
  cl : Cls K C
  no : ∀ x ∈ fs, PySem.W.findIn K (.ref C) x = some none
/-- an own error -/
structure Xf (K : PySem.W.Frag) (mg : Str → Option Value) (x q : Str) (st : Stmt) (ps fs : List Str) : Type where
  C : Addr
  f : Addr
  fd : FuncData
  F : Fun K "__init__" q st f fd
  g : mg x = some (.ref C)
  b : Binds K fd ps []
  T : OexC K C
  iC : PySem.W.findIn K (.ref C) "__init__" = some (some (.ref f))
  tI : PySem.W.typeIn K (.ref f) = some (.type "function")
  xf : XfC K C
  te : PySem.W.exmOne K (.ref C) (.ref C) = some true
  no : ∀ x ∈ fs, PySem.W.findIn K (.ref C) x = some none
/-- an own class's ==, and what else is asked of it -/
structure Ef (K : PySem.W.Frag) (C : Addr) (q : Str) (st : Stmt) (ps : List Str) : Type where
  f : Addr
  fd : FuncData
  F : Fun K "__eq__" q st f fd
  b : Binds K fd ps []
  i : PySem.W.findIn K (.ref C) "__eq__" = some (some (.ref f))
  t : PySem.W.isFn K (.ref f) = true
  k : PySem.W.kitOne K (.ref C) (.ref C) = some true
  ha : PySem.W.findIn K (.ref C) "__class__" = some (some (.builtin "object.__class__"))
  hn : PySem.W.specialIn K (.builtin "object.__class__") "__get__" = some (some (.builtin "getset_descriptor.__get__"))
  ht : PySem.W.takesIn K (.builtin "object.__class__") = some true
  hm : PySem.W.mroIn K C (.type "object") = some true
  ne : PySem.W.findIn K (.ref C) "__ne__" = some (some (.builtin "object.__ne__"))
  sb : PySem.W.subIn K (.ref C) (.type "object") = some true
  tN : PySem.W.subIn K (.type "NoneType") (.ref C) = some false ∧ PySem.W.kitOne K (.type "NoneType") (.ref C) = some false
  tI : PySem.W.subIn K (.type "int") (.ref C) = some false ∧ PySem.W.kitOne K (.type "int") (.ref C) = some false
  tB : PySem.W.subIn K (.type "bool") (.ref C) = some false ∧ PySem.W.kitOne K (.type "bool") (.ref C) = some false
  tS : PySem.W.subIn K (.type "str") (.ref C) = some false ∧ PySem.W.kitOne K (.type "str") (.ref C) = some false
  tT : PySem.W.subIn K (.type "tuple") (.ref C) = some false ∧ PySem.W.kitOne K (.type "tuple") (.ref C) = some false
  tL : PySem.W.subIn K (.type "list") (.ref C) = some false ∧ PySem.W.kitOne K (.type "list") (.ref C) = some false
  tD : PySem.W.subIn K (.type "dict") (.ref C) = some false ∧ PySem.W.kitOne K (.type "dict") (.ref C) = some false
/-- what isinstance asks of the error class at D, and of its base -/
structure HeF (K : PySem.W.Frag) (mg : Str → Option Value) (D : Addr) : Type where
  C : Addr
  g : mg "HourError" = some (.ref C)
  k1 : PySem.W.kitOne K (.ref D) (.ref C) = some true
  k2 : PySem.W.kitOne K (.ref D) (.type "ValueError") = some true
  ec : ExcC K D
abbrev s_is_integer : Stmt := (top 1)
theorem sc_is_integer : FnScope ["thing"] ["thing"] (defScope s_is_integer) := ⟨rfl, rfl, rfl, by decide +kernel, rfl, by decide +kernel, by decide +kernel⟩
abbrev s_is_between : Stmt := (top 2)
theorem sc_is_between : FnScope ["low", "high", "thing"] ["low", "high", "thing"] (defScope s_is_between) := ⟨rfl, rfl, rfl, by decide +kernel, rfl, by decide +kernel, by decide +kernel⟩
abbrev s_is_tuple : Stmt := (top 3)
theorem sc_is_tuple : FnScope ["many", "thing"] ["many", "thing"] (defScope s_is_tuple) := ⟨rfl, rfl, rfl, by decide +kernel, rfl, by decide +kernel, by decide +kernel⟩
abbrev s_is_pair : Stmt := (top 4)
theorem sc_is_pair : FnScope ["thing"] ["thing"] (defScope s_is_pair) := ⟨rfl, rfl, rfl, by decide +kernel, rfl, by decide +kernel, by decide +kernel⟩
abbrev s_are_integers : Stmt := (top 5)
theorem sc_are_integers : FnScope ["many", "thing", "one"] ["many", "thing"] (defScope s_are_integers) := ⟨rfl, rfl, rfl, by decide +kernel, rfl, by decide +kernel, by decide +kernel⟩
abbrev s_are_between : Stmt := (top 6)
theorem sc_are_between : FnScope ["many", "low", "high", "thing", "one"] ["many", "low", "high", "thing"] (defScope s_are_between) := ⟨rfl, rfl, rfl, by decide +kernel, rfl, by decide +kernel, by decide +kernel⟩
abbrev s_are_roads : Stmt := (top 19)
theorem sc_are_roads : FnScope ["houses", "thing", "road"] ["houses", "thing"] (defScope s_are_roads) := ⟨rfl, rfl, rfl, by decide +kernel, rfl, by decide +kernel, by decide +kernel⟩
abbrev s_is_begin_and_end : Stmt := (top 20)
theorem sc_is_begin_and_end : FnScope ["houses", "thing"] ["houses", "thing"] (defScope s_is_begin_and_end) := ⟨rfl, rfl, rfl, by decide +kernel, rfl, by decide +kernel, by decide +kernel⟩
abbrev s_is_road : Stmt := (top 21)
theorem sc_is_road : FnScope ["web", "thing"] ["web", "thing"] (defScope s_is_road) := ⟨rfl, rfl, rfl, by decide +kernel, rfl, by decide +kernel, by decide +kernel⟩
abbrev s_is_way : Stmt := (top 22)
theorem sc_is_way : FnScope ["web", "thing", "road", "after"] ["web", "thing"] (defScope s_is_way) := ⟨rfl, rfl, rfl, by decide +kernel, rfl, by decide +kernel, by decide +kernel⟩
abbrev s_is_letter : Stmt := (top 27)
theorem sc_is_letter : FnScope ["web", "thing"] ["web", "thing"] (defScope s_is_letter) := ⟨rfl, rfl, rfl, by decide +kernel, rfl, by decide +kernel, by decide +kernel⟩
abbrev s_are_letters : Stmt := (top 28)
theorem sc_are_letters : FnScope ["web", "thing", "letter"] ["web", "thing"] (defScope s_are_letters) := ⟨rfl, rfl, rfl, by decide +kernel, rfl, by decide +kernel, by decide +kernel⟩
abbrev s_are_hours : Stmt := (top 29)
theorem sc_are_hours : FnScope ["letters", "thing", "row", "way", "_"] ["letters", "thing"] (defScope s_are_hours) := ⟨rfl, rfl, rfl, by decide +kernel, rfl, by decide +kernel, by decide +kernel⟩
abbrev s_first_ticks : Stmt := (top 30)
theorem sc_first_ticks : FnScope ["web", "letter", "row", "way", "come", "road", "hour"] ["web", "letter", "row"] (defScope s_first_ticks) := ⟨rfl, rfl, rfl, by decide +kernel, rfl, by decide +kernel, by decide +kernel⟩
abbrev s_some_early : Stmt := (top 31)
theorem sc_some_early : FnScope ["web", "letters", "hours", "letter", "row", "hour", "first"] ["web", "letters", "hours"] (defScope s_some_early) := ⟨rfl, rfl, rfl, by decide +kernel, rfl, by decide +kernel, by decide +kernel⟩
abbrev s_some_full : Stmt := (top 32)
theorem sc_some_full : FnScope ["web", "letters", "hours", "passed", "way", "_", "row", "road", "hour", "many"] ["web", "letters", "hours"] (defScope s_some_full) := ⟨rfl, rfl, rfl, by decide +kernel, rfl, by decide +kernel, by decide +kernel⟩
abbrev s_read_day : Stmt := (top 37)
theorem sc_read_day : FnScope ["text", "rows", "web", "told", "letters", "word", "numbers"] ["text"] (defScope s_read_day) := ⟨rfl, rfl, rfl, by decide +kernel, rfl, by decide +kernel, by decide +kernel⟩
abbrev s_web_of : Stmt := (top 38)
theorem sc_web_of : FnScope ["rows", "roads", "word", "numbers", "begin", "end", "_", "rooms", "time"] ["rows"] (defScope s_web_of) := ⟨rfl, rfl, rfl, by decide +kernel, rfl, by decide +kernel, by decide +kernel⟩
abbrev s_rows_of : Stmt := (top 39)
theorem sc_rows_of : FnScope ["text", "words", "lines", "rows", "last", "number", "line", "word", "rest", "figures"] ["text", "words"] (defScope s_rows_of) := ⟨rfl, rfl, rfl, by decide +kernel, rfl, by decide +kernel, by decide +kernel⟩
abbrev s_is_form : Stmt := (top 40)
theorem sc_is_form : FnScope ["word", "rest", "figures"] ["word", "rest"] (defScope s_is_form) := ⟨rfl, rfl, rfl, by decide +kernel, rfl, by decide +kernel, by decide +kernel⟩
abbrev s_is_number : Stmt := (top 41)
theorem sc_is_number : FnScope ["word", "sign"] ["word"] (defScope s_is_number) := ⟨rfl, rfl, rfl, by decide +kernel, rfl, by decide +kernel, by decide +kernel⟩
abbrev s_law_hand : Stmt := (top 43)
theorem sc_law_hand : FnScope ["_law_script", "_law_cells", "_law_cell"] ["_law_script"] (defScope s_law_hand) := ⟨rfl, rfl, rfl, by decide +kernel, rfl, by decide +kernel, by decide +kernel⟩
abbrev s_law_draw : Stmt := (top 44)
theorem sc_law_draw : FnScope ["_law_hand_here", "_law_many", "_law_cell", "_law_digit", "_law_number_here"] ["_law_hand_here", "_law_many"] (defScope s_law_draw) := ⟨rfl, rfl, rfl, by decide +kernel, rfl, by decide +kernel, by decide +kernel⟩
abbrev s_law_counts : Stmt := (top 45)
theorem sc_law_counts : FnScope ["_law_hand_here", "_law_many", "_law_road"] ["_law_hand_here", "_law_many"] (defScope s_law_counts) := ⟨rfl, rfl, rfl, by decide +kernel, rfl, by decide +kernel, by decide +kernel⟩
abbrev s_law_web : Stmt := (top 46)
theorem sc_law_web : FnScope ["_law_hand_here", "_law_towns", "_law_most", "_law_houses", "_law_many", "_law_chained", "_law_roads", "_law_road", "_law_begin"] ["_law_hand_here", "_law_towns", "_law_most"] (defScope s_law_web) := ⟨rfl, rfl, rfl, by decide +kernel, rfl, by decide +kernel, by decide +kernel⟩
abbrev s_law_next : Stmt := (top 47)
theorem sc_law_next : FnScope ["_law_web_here", "_law_road", "_law_other"] ["_law_web_here", "_law_road"] (defScope s_law_next) := ⟨rfl, rfl, rfl, by decide +kernel, rfl, by decide +kernel, by decide +kernel⟩
abbrev s_law_way : Stmt := (top 48)
theorem sc_law_way : FnScope ["_law_hand_here", "_law_web_here", "_law_most", "_law_way_here", "_law_turn", "_law_behind"] ["_law_hand_here", "_law_web_here", "_law_most"] (defScope s_law_way) := ⟨rfl, rfl, rfl, by decide +kernel, rfl, by decide +kernel, by decide +kernel⟩
abbrev s_law_letters : Stmt := (top 49)
theorem sc_law_letters : FnScope ["_law_hand_here", "_law_web_here", "_law_many", "_law_span", "_law_letter"] ["_law_hand_here", "_law_web_here", "_law_many", "_law_span"] (defScope s_law_letters) := ⟨rfl, rfl, rfl, by decide +kernel, rfl, by decide +kernel, by decide +kernel⟩
abbrev s_law_ready : Stmt := (top 50)
theorem sc_law_ready : FnScope ["_law_web_here", "_law_letter", "_law_row", "_law_place"] ["_law_web_here", "_law_letter", "_law_row"] (defScope s_law_ready) := ⟨rfl, rfl, rfl, by decide +kernel, rfl, by decide +kernel, by decide +kernel⟩
abbrev s_law_hours : Stmt := (top 51)
theorem sc_law_hours : FnScope ["_law_hand_here", "_law_web_here", "_law_letters_here", "_law_rows", "_law_idle", "_law_tick", "_law_free", "_law_order", "_law_number_here", "_law_ready_here", "_law_road", "_law_letter", "_law_row"] ["_law_hand_here", "_law_web_here", "_law_letters_here"] (defScope s_law_hours) := ⟨rfl, rfl, rfl, by decide +kernel, rfl, by decide +kernel, by decide +kernel⟩
abbrev s_law_day : Stmt := (top 53)
theorem sc_law_day : FnScope ["_law_hand_here", "_law_towns", "_law_most", "_law_many", "_law_span", "_law_web_here", "_law_letters_here"] ["_law_hand_here", "_law_towns", "_law_most", "_law_many", "_law_span"] (defScope s_law_day) := ⟨rfl, rfl, rfl, by decide +kernel, rfl, by decide +kernel, by decide +kernel⟩
abbrev s_law_web_text : Stmt := (top 54)
theorem sc_law_web_text : FnScope ["_law_web_here", "_law_lines", "_law_road", "_law_numbers", "_law_number_here"] ["_law_web_here"] (defScope s_law_web_text) := ⟨rfl, rfl, rfl, by decide +kernel, rfl, by decide +kernel, by decide +kernel⟩
abbrev s_law_day_text : Stmt := (top 55)
theorem sc_law_day_text : FnScope ["_law_web_here", "_law_letters_here", "_law_hours_here", "_law_lines", "_law_number_here", "_law_way_here", "_law_come", "_law_words", "_law_place"] ["_law_web_here", "_law_letters_here", "_law_hours_here"] (defScope s_law_day_text) := ⟨rfl, rfl, rfl, by decide +kernel, rfl, by decide +kernel, by decide +kernel⟩
abbrev s_law_number : Stmt := (top 56)
theorem sc_law_number : FnScope ["_law_word", "_law_sign"] ["_law_word"] (defScope s_law_number) := ⟨rfl, rfl, rfl, by decide +kernel, rfl, by decide +kernel, by decide +kernel⟩
abbrev s_law_line : Stmt := (top 57)
theorem sc_law_line : FnScope ["_law_line_here", "_law_words", "_law_numbers", "_law_many", "_law_fits", "_law_word", "_law_number_here"] ["_law_line_here"] (defScope s_law_line) := ⟨rfl, rfl, rfl, by decide +kernel, rfl, by decide +kernel, by decide +kernel⟩
abbrev s_law_wrong : Stmt := (top 58)
theorem sc_law_wrong : FnScope ["_law_text", "_law_letters_here", "_law_lines", "_law_rows", "_law_stage", "_law_at", "_law_word", "_law_line_here"] ["_law_text", "_law_letters_here"] (defScope s_law_wrong) := ⟨rfl, rfl, rfl, by decide +kernel, rfl, by decide +kernel, by decide +kernel⟩
abbrev s_law_web_part : Stmt := (top 59)
theorem sc_law_web_part : FnScope ["_law_houses", "_law_roads", "_law_far", "_law_row"] ["_law_houses", "_law_roads"] (defScope s_law_web_part) := ⟨rfl, rfl, rfl, by decide +kernel, rfl, by decide +kernel, by decide +kernel⟩
abbrev s_law_due : Stmt := (top 60)
theorem sc_law_due : FnScope ["_law_text", "_law_line_here", "_law_rows", "_law_roads", "_law_houses", "_law_part", "_law_letters_here", "_law_row"] ["_law_text"] (defScope s_law_due) := ⟨rfl, rfl, rfl, by decide +kernel, rfl, by decide +kernel, by decide +kernel⟩
abbrev s_law_day_part : Stmt := (top 61)
theorem sc_law_day_part : FnScope ["_law_roads", "_law_letters_here", "_law_passed", "_law_early", "_law_numbers", "_law_way_here", "_law_low", "_law_place", "_law_road", "_law_at", "_law_one"] ["_law_roads", "_law_letters_here"] (defScope s_law_day_part) := ⟨rfl, rfl, rfl, by decide +kernel, rfl, by decide +kernel, by decide +kernel⟩
abbrev s_law_asked : Stmt := (top 62)
theorem sc_law_asked : FnScope ["_law_text", "_law_told", "_law_made", "_law_web_here", "_law_roads", "_law_road", "_law_letters_here", "_law_number_here", "_law_numbers", "_law_place", "e"] ["_law_text"] (defScope s_law_asked) := ⟨rfl, rfl, rfl, by decide +kernel, rfl, by decide +kernel, by decide +kernel⟩
abbrev s_law_word_bent : Stmt := (top 63)
theorem sc_law_word_bent : FnScope ["_law_hand_here", "_law_line_here", "_law_words", "_law_at", "_law_odd", "_law_kind"] ["_law_hand_here", "_law_line_here"] (defScope s_law_word_bent) := ⟨rfl, rfl, rfl, by decide +kernel, rfl, by decide +kernel, by decide +kernel⟩
abbrev s_law_bent : Stmt := (top 64)
theorem sc_law_bent : FnScope ["_law_hand_here", "_law_text", "_law_lines", "_law_row", "_law_other", "_law_at", "_law_sign", "_law_kind"] ["_law_hand_here", "_law_text"] (defScope s_law_bent) := ⟨rfl, rfl, rfl, by decide +kernel, rfl, by decide +kernel, by decide +kernel⟩
abbrev s_law : Stmt := (top 65)
theorem sc_law : FnScope ["_law_script", "_law_hand_here", "_law_web_here", "_law_letters_here", "_law_hours_here", "_law_text", "_law_turn", "_law_bent_here", "_law_again", "_law_thing"] ["_law_script"] (defScope s_law) := ⟨rfl, rfl, rfl, by decide +kernel, rfl, by decide +kernel, by decide +kernel⟩
abbrev s_Web___init : Stmt := inClass (top 18) 0
theorem sc_Web___init : FnScope ["self", "houses", "roads", "rooms", "times"] ["self", "houses", "roads", "rooms", "times"] (defScope s_Web___init) := ⟨rfl, rfl, rfl, by decide +kernel, rfl, by decide +kernel, by decide +kernel⟩
abbrev s_Day___init : Stmt := inClass (top 26) 0
theorem sc_Day___init : FnScope ["self", "web", "letters", "hours"] ["self", "web", "letters", "hours"] (defScope s_Day___init) := ⟨rfl, rfl, rfl, by decide +kernel, rfl, by decide +kernel, by decide +kernel⟩
abbrev s_BadWeb___init : Stmt := inClass (top 9) 0
theorem sc_BadWeb___init : FnScope ["self", "part"] ["self", "part"] (defScope s_BadWeb___init) := ⟨rfl, rfl, rfl, by decide +kernel, rfl, by decide +kernel, by decide +kernel⟩
abbrev s_BadDay___init : Stmt := inClass (top 10) 0
theorem sc_BadDay___init : FnScope ["self", "part"] ["self", "part"] (defScope s_BadDay___init) := ⟨rfl, rfl, rfl, by decide +kernel, rfl, by decide +kernel, by decide +kernel⟩
abbrev s_BadText___init : Stmt := inClass (top 11) 0
theorem sc_BadText___init : FnScope ["self", "line"] ["self", "line"] (defScope s_BadText___init) := ⟨rfl, rfl, rfl, by decide +kernel, rfl, by decide +kernel, by decide +kernel⟩
structure Tx (K : PySem.W.Frag) (mg : Str → Option Value) : Type where
  is_integer : Df K mg "is_integer" s_is_integer ["thing"]
  is_between : Df K mg "is_between" s_is_between ["low", "high", "thing"]
  is_tuple : Df K mg "is_tuple" s_is_tuple ["many", "thing"]
  is_pair : Df K mg "is_pair" s_is_pair ["thing"]
  are_integers : Df K mg "are_integers" s_are_integers ["many", "thing"]
  are_between : Df K mg "are_between" s_are_between ["many", "low", "high", "thing"]
  are_roads : Df K mg "are_roads" s_are_roads ["houses", "thing"]
  is_begin_and_end : Df K mg "is_begin_and_end" s_is_begin_and_end ["houses", "thing"]
  is_road : Df K mg "is_road" s_is_road ["web", "thing"]
  is_way : Df K mg "is_way" s_is_way ["web", "thing"]
  is_letter : Df K mg "is_letter" s_is_letter ["web", "thing"]
  are_letters : Df K mg "are_letters" s_are_letters ["web", "thing"]
  are_hours : Df K mg "are_hours" s_are_hours ["letters", "thing"]
  first_ticks : Df K mg "first_ticks" s_first_ticks ["web", "letter", "row"]
  some_early : Df K mg "some_early" s_some_early ["web", "letters", "hours"]
  some_full : Df K mg "some_full" s_some_full ["web", "letters", "hours"]
  read_day : Df K mg "read_day" s_read_day ["text"]
  web_of : Df K mg "web_of" s_web_of ["rows"]
  rows_of : Df K mg "rows_of" s_rows_of ["text", "words"]
  is_form : Df K mg "is_form" s_is_form ["word", "rest"]
  is_number : Df K mg "is_number" s_is_number ["word"]
  _law_hand : Df K mg "_law_hand" s_law_hand ["_law_script"]
  _law_draw : Df K mg "_law_draw" s_law_draw ["_law_hand_here", "_law_many"]
  _law_counts : Df K mg "_law_counts" s_law_counts ["_law_hand_here", "_law_many"]
  _law_web : Df K mg "_law_web" s_law_web ["_law_hand_here", "_law_towns", "_law_most"]
  _law_next : Df K mg "_law_next" s_law_next ["_law_web_here", "_law_road"]
  _law_way : Df K mg "_law_way" s_law_way ["_law_hand_here", "_law_web_here", "_law_most"]
  _law_letters : Df K mg "_law_letters" s_law_letters ["_law_hand_here", "_law_web_here", "_law_many", "_law_span"]
  _law_ready : Df K mg "_law_ready" s_law_ready ["_law_web_here", "_law_letter", "_law_row"]
  _law_hours : Df K mg "_law_hours" s_law_hours ["_law_hand_here", "_law_web_here", "_law_letters_here"]
  _law_day : Df K mg "_law_day" s_law_day ["_law_hand_here", "_law_towns", "_law_most", "_law_many", "_law_span"]
  _law_web_text : Df K mg "_law_web_text" s_law_web_text ["_law_web_here"]
  _law_day_text : Df K mg "_law_day_text" s_law_day_text ["_law_web_here", "_law_letters_here", "_law_hours_here"]
  _law_number : Df K mg "_law_number" s_law_number ["_law_word"]
  _law_line : Df K mg "_law_line" s_law_line ["_law_line_here"]
  _law_wrong : Df K mg "_law_wrong" s_law_wrong ["_law_text", "_law_letters_here"]
  _law_web_part : Df K mg "_law_web_part" s_law_web_part ["_law_houses", "_law_roads"]
  _law_due : Df K mg "_law_due" s_law_due ["_law_text"]
  _law_day_part : Df K mg "_law_day_part" s_law_day_part ["_law_roads", "_law_letters_here"]
  _law_asked : Df K mg "_law_asked" s_law_asked ["_law_text"]
  _law_word_bent : Df K mg "_law_word_bent" s_law_word_bent ["_law_hand_here", "_law_line_here"]
  _law_bent : Df K mg "_law_bent" s_law_bent ["_law_hand_here", "_law_text"]
  law : Df K mg "law" s_law ["_law_script"]
  c_MOST_HOUSES : ∃ t, mg "MOST_HOUSES" = some (.int 12 t)
  c_MOST_ROADS : ∃ t, mg "MOST_ROADS" = some (.int 24 t)
  c_MOST_ROOMS : ∃ t, mg "MOST_ROOMS" = some (.int 3 t)
  c_LONGEST_TIME : ∃ t, mg "LONGEST_TIME" = some (.int 3 t)
  c_LONGEST_WAY : ∃ t, mg "LONGEST_WAY" = some (.int 8 t)
  c_MOST_LETTERS : ∃ t, mg "MOST_LETTERS" = some (.int 60 t)
  c_LAST_TICK : ∃ t, mg "LAST_TICK" = some (.int 1000000 t)
  c_MOST_FIGURES : ∃ t, mg "MOST_FIGURES" = some (.int 9 t)
  c_FIGURES : ∃ t, mg "FIGURES" = some (.str "0123456789" t)
  Web : Wf K mg "Web" "Web.__init__" s_Web___init ["self", "houses", "roads", "rooms", "times"] ["houses", "roads", "rooms", "times"]
  Day : Wf K mg "Day" "Day.__init__" s_Day___init ["self", "web", "letters", "hours"] ["web", "letters", "hours"]
  x_BadWeb : Xf K mg "BadWeb" "BadWeb.__init__" s_BadWeb___init ["self", "part"] ["part"]
  x_BadDay : Xf K mg "BadDay" "BadDay.__init__" s_BadDay___init ["self", "part"] ["part"]
  x_BadText : Xf K mg "BadText" "BadText.__init__" s_BadText___init ["self", "line"] ["line"]
  n_isinstance : mg "isinstance" = none
  n_int : mg "int" = none
  n_bool : mg "bool" = none
  n_str : mg "str" = none
  n_tuple : mg "tuple" = none
  n_list : mg "list" = none
  n_len : mg "len" = none
  n_all : mg "all" = none
  n_any : mg "any" = none
  n_abs : mg "abs" = none
  n_range : mg "range" = none
  n_zip : mg "zip" = none
  n_enumerate : mg "enumerate" = none
  n_sorted : mg "sorted" = none
  g_HourError : ∃ C, mg "HourError" = some (.ref C)
  d_BadWeb_BadText : PySem.W.exmOne K (.ref x_BadWeb.C) (.ref x_BadText.C) = some false
  d_BadDay_BadText : PySem.W.exmOne K (.ref x_BadDay.C) (.ref x_BadText.C) = some false
  d_BadDay_BadWeb : PySem.W.exmOne K (.ref x_BadDay.C) (.ref x_BadWeb.C) = some false

section
variable {P : Program} {w : World} {K : PySem.W.Frag} {mg : Str → Option Value} {base : Heap}
def spThing (g : D → Bool) : Sp := fun vs H Q _ => ∃ (h : Addr) (v : V) (d : D), vs = [v] ∧ Rp H h v d ∧ Q (.bl (g d)) H
theorem ok_is_integer (T : Tx K mg) : FnOk P w K mg base CX0 1 T.is_integer.f T.is_integer.fd ["thing"] (spThing isInt) := by
  refine T.is_integer.F.ok sc_is_integer (fun vs H Q E h => ?_) (fun cdv A outer s H vs Q E hr h => ?_)
  · obtain ⟨_, v, d, rfl, _⟩ := h
    rfl
  · obtain ⟨_, v, d, rfl, r, k⟩ := h
    refine ⟨_, (pss_one (ps_ret (pe_and (pe_callB call_isi (by rfl) T.n_isinstance (by decide +kernel) (pa_cons (pv 0) (pa_cons (pe_bltn (v := .ty "int") (by rfl) T.n_int (by decide +kernel) rfl) pa_nil))) (pe_one (pe_not (pe_callB call_isi (by rfl) T.n_isinstance (by decide +kernel) (pa_cons (pv 0) (pa_cons (pe_bltn (v := .ty "bool") (by rfl) T.n_bool (by decide +kernel) rfl) pa_nil)))))))), ?_⟩
    refine ⟨_, rfl, _, _, _, _, _, rfl, .ty "int", r.ty, kit_ty (kitI d), _, rfl, ?_⟩
    cases e : isIB d with
    | false =>
      refine iteF ?_
      have : isInt d = false := by cases d <;> first | rfl | exact Bool.noConfusion e
      rw [this] at k
      exact k
    | true =>
      refine iteT ?_
      refine ⟨_, rfl, _, _, _, _, _, rfl, .ty "bool", r.ty, kit_ty (kitBo d), _, rfl, ?_⟩
      have : (!isB d) = isInt d := by cases d <;> first | rfl | exact Bool.noConfusion e
      rw [this]
      exact k
def spBtw : Sp := fun vs H Q _ => ∃ (h : Addr) (lo hi : Int) (v : V) (d : D), vs = [.int lo, .int hi, v] ∧ Rp H h v d ∧ Q (.bl (isBtw lo hi d)) H
theorem ok_is_between (T : Tx K mg) : FnOk P w K mg base CX0 2 T.is_between.f T.is_between.fd ["low", "high", "thing"] spBtw := by
  refine T.is_between.F.ok sc_is_between (fun vs H Q E h => ?_) (fun cdv A outer s H vs Q E hr h => ?_)
  · obtain ⟨_, lo, hi, v, d, rfl, _⟩ := h
    rfl
  · obtain ⟨_, lo, hi, v, d, rfl, r, k⟩ := h
    refine ⟨_, (pss_one (ps_ret (pe_and (pe_call (ok_is_integer T) (hr.mono (by decide)) rfl T.is_integer.g T.is_integer.F.kp T.is_integer.b .nil pass0 (pa_cons (pv 2) pa_nil)) (pe_one (pe_chain op_le op_le (pv 0) (pv 2) (pv 1)))))), ?_⟩
    refine ⟨_, rfl, _, v, d, rfl, r, _, rfl, ?_⟩
    cases r with
    | int i =>
      refine iteT ?_
      refine ⟨_, rfl, _, rfl, _, _, rfl, rfl, _, rfl, ?_⟩
      by_cases h1 : lo ≤ i
      · rw [decide_eq_true h1]
        refine iteT ?_
        refine ⟨_, rfl, _, _, rfl, rfl, ?_⟩
        have : isBtw lo hi (.int i) = decide (i ≤ hi) := by show (decide (lo ≤ i) && decide (i ≤ hi)) = _; rw [decide_eq_true h1]; rfl
        rw [this] at k
        exact k
      · rw [decide_eq_false h1]
        refine iteF ?_
        have : isBtw lo hi (.int i) = false := by show (decide (lo ≤ i) && decide (i ≤ hi)) = _; rw [decide_eq_false h1]; rfl
        rw [this] at k
        exact k
    | _ => exact iteF k
def isTupN (n : Int) : D → Bool | .tup ds => decide ((ds.length : Int) = n) | _ => false
def spTupN : Sp := fun vs H Q _ => ∃ (h : Addr) (n : Int) (v : V) (d : D), vs = [.int n, v] ∧ Rp H h v d ∧ Q (.bl (isTupN n d)) H
theorem int_eqd (a b : Int) : decide (V.int a = V.int b) = decide (a = b) := by
  by_cases e : a = b
  · subst e; simp
  · rw [decide_eq_false e, decide_eq_false fun z => e (V.int.inj z)]
theorem ok_is_tuple (T : Tx K mg) : FnOk P w K mg base CX0 1 T.is_tuple.f T.is_tuple.fd ["many", "thing"] spTupN := by
  refine T.is_tuple.F.ok sc_is_tuple (fun vs H Q E h => ?_) (fun cdv A outer s H vs Q E hr h => ?_)
  · obtain ⟨_, n, v, d, rfl, _⟩ := h
    rfl
  · obtain ⟨ha, n, v, d, rfl, r, k⟩ := h
    refine ⟨_, (pss_one (ps_ret (pe_and (pe_callB call_isi (by rfl) T.n_isinstance (by decide +kernel) (pa_cons (pv 1) (pa_cons (pe_bltn (v := .ty "tuple") (by rfl) T.n_tuple (by decide +kernel) rfl) pa_nil))) (pe_one (pe_cmpR op_eq (pe_callB call_len_seq (by rfl) T.n_len (by decide +kernel) (pa_cons (pv 1) pa_nil)) (pv 0) (nomark _)))))), ?_⟩
    refine ⟨_, rfl, _, _, _, _, _, rfl, .ty "tuple", r.ty, kit_ty (kitT d), _, rfl, ?_⟩
    cases r with
    | @tup _ xs ds e z ra =>
      refine iteT ?_
      refine ⟨_, rfl, _, _, rfl, .inr (SqT.of e), _, rfl, rfl, ?_⟩
      rw [int_eqd, ra.len]
      exact k
    | _ => exact iteF k
def spPair : Sp := fun vs H Q _ => ∃ (h : Addr) (v : V) (d : D), vs = [v] ∧ Rp H h v d ∧ Q (.bl (isTupN 2 d)) H
theorem ok_is_pair (T : Tx K mg) : FnOk P w K mg base CX0 2 T.is_pair.f T.is_pair.fd ["thing"] spPair := by
  refine T.is_pair.F.ok sc_is_pair (fun vs H Q E h => ?_) (fun cdv A outer s H vs Q E hr h => ?_)
  · obtain ⟨_, v, d, rfl, _⟩ := h
    rfl
  · obtain ⟨ha, v, d, rfl, r, k⟩ := h
    refine ⟨_, (pss_one (ps_ret (pe_call (ok_is_tuple T) (hr.mono (by decide)) rfl T.is_tuple.g T.is_tuple.F.kp T.is_tuple.b .nil pass0 (pa_cons pe_int (pa_cons (pv 0) pa_nil))))), ?_⟩
    exact ⟨_, rfl, ha, 2, v, d, rfl, r, k⟩
def spInts : Sp := fun vs H Q _ => ∃ (h : Addr) (n : Int) (v : V) (d : D), vs = [.int n, v] ∧ Rp H h v d ∧ ∀ H', Same H H' → Q (.bl (areInts n d)) H'
theorem areInts_tup (n : Int) (ds : List D) : areInts n (.tup ds) = (decide ((ds.length : Int) = n) && ds.all isInt) := rfl
theorem areBtw_tup (n lo hi : Int) (ds : List D) : areBtw n lo hi (.tup ds) = (decide ((ds.length : Int) = n) && ds.all (isBtw lo hi)) := rfl
theorem areRoads_tup (n : Int) (ds : List D) : areRoads n (.tup ds) = (decide (1 ≤ ds.length) && decide (ds.length ≤ 24) && ds.all (isBE n)) := rfl
theorem map_all (ds : List D) (p : D → Bool) : (ds.map p).all id = ds.all p := by rw [List.all_map]; rfl
theorem ok_are_integers (T : Tx K mg) : FnOk P w K mg base CX0 2 T.are_integers.f T.are_integers.fd ["many", "thing"] spInts := by
  refine T.are_integers.F.ok sc_are_integers (fun vs H Q E h => ?_) (fun cdv A outer s H vs Q E hr h => ?_)
  · obtain ⟨_, n, v, d, rfl, _⟩ := h
    rfl
  · obtain ⟨ha, n, v, d, rfl, r, k⟩ := h
    refine ⟨_, (pss_one (ps_ret (pe_and (pe_call (ok_is_tuple T) (hr.mono (by decide)) rfl T.is_tuple.g T.is_tuple.F.kp T.is_tuple.b .nil pass0 (pa_cons (pv 0) (pa_cons (pv 1) pa_nil))) (pe_one (pe_callB (cr_all rfl) (by rfl) T.n_all (by decide +kernel) (pa_cons (pe_lc (own := [("one", 2)]) (g := (gName 2)) (tt := tYes) rfl sc_are_integers.nd (pi_tup (pv 1)) (blkOk_by (own := [("one", 2)]) (N := ["many", "thing", "one"]) (sc := defScope s_are_integers) (by decide +kernel)) (fun _ _ _ _ _ => (pg_name (i := 2) sc_are_integers.nd rfl (Or.inl rfl))) (fun _ _ _ _ _ => pts_nil) (fun _ _ _ _ _ => (by exact (pe_call (ok_is_integer T) (hr.mono (by decide)) rfl T.is_integer.g T.is_integer.F.kp T.is_integer.b .nil pass0 (pa_cons (pv 2) pa_nil))))) pa_nil)))))), ?_⟩
    refine ⟨_, rfl, _, rfl, ha, n, v, d, rfl, r, _, rfl, ?_⟩
    cases r with
    | @tup _ xs ds e z ra =>
      show if decide ((ds.length : Int) = n) = true then _ else _
      by_cases hn : (ds.length : Int) = n
      · rw [decide_eq_true hn]
        refine iteT ?_
        refine ⟨_, rfl, _, rfl, ⟨_, SqT.of e⟩, fun A hA => all_tup e z ra isInt hA (fun x => rfl) (fun x d H' Q' _ _ rp q => ?_) (fun H' sm sl => ?_)⟩
        · exact ⟨_, rfl, ha, _, _, rfl, rp, q _ (Same.refl _)⟩
        · refine ⟨_, _, rfl, sl, ?_⟩
          rw [map_all]
          have := k H' sm
          rw [areInts_tup, decide_eq_true hn] at this
          exact this
      · rw [decide_eq_false hn]
        refine iteF ?_
        have := k H (Same.refl _)
        rw [areInts_tup, decide_eq_false hn] at this
        exact this
    | _ => exact iteF (k H (Same.refl _))
def spBtws : Sp := fun vs H Q _ => ∃ (h : Addr) (n lo hi : Int) (v : V) (d : D), vs = [.int n, .int lo, .int hi, v] ∧ Rp H h v d ∧ ∀ H', Same H H' → Q (.bl (areBtw n lo hi d)) H'
theorem btw_int (lo hi : Int) (ds : List D) : (ds.all isInt && ds.all (isBtw lo hi)) = ds.all (isBtw lo hi) := by
  cases e : ds.all (isBtw lo hi) with
  | false => rw [Bool.and_false]
  | true =>
    rw [Bool.and_true, List.all_eq_true]
    rw [List.all_eq_true] at e
    intro d hd
    have := e d hd
    cases d <;> first | rfl | exact Bool.noConfusion this
theorem ok_are_between (T : Tx K mg) : FnOk P w K mg base CX0 3 T.are_between.f T.are_between.fd ["many", "low", "high", "thing"] spBtws := by
  refine T.are_between.F.ok sc_are_between (fun vs H Q E h => ?_) (fun cdv A outer s H vs Q E hr h => ?_)
  · obtain ⟨_, n, lo, hi, v, d, rfl, _⟩ := h
    rfl
  · obtain ⟨ha, n, lo, hi, v, d, rfl, r, k⟩ := h
    refine ⟨_, (pss_one (ps_ret (pe_and (pe_call (ok_are_integers T) (hr.mono (by decide)) rfl T.are_integers.g T.are_integers.F.kp T.are_integers.b .nil pass0 (pa_cons (pv 0) (pa_cons (pv 3) pa_nil))) (pe_one (pe_callB (cr_all rfl) (by rfl) T.n_all (by decide +kernel) (pa_cons (pe_lc (own := [("one", 4)]) (g := (gName 4)) (tt := tYes) rfl sc_are_between.nd (pi_tup (pv 3)) (blkOk_by (own := [("one", 4)]) (N := ["many", "low", "high", "thing", "one"]) (sc := defScope s_are_between) (by decide +kernel)) (fun _ _ _ _ _ => (pg_name (i := 4) sc_are_between.nd rfl (Or.inl rfl))) (fun _ _ _ _ _ => pts_nil) (fun _ _ _ _ _ => (by exact (pe_chain op_le op_le (pv 1) (pv 4) (pv 2))))) pa_nil)))))), ?_⟩
    refine ⟨_, rfl, _, rfl, ha, _, _, _, rfl, r, fun H1 s1 => ⟨_, rfl, ?_⟩⟩
    cases e1 : areInts n d with
    | false =>
      refine iteF ?_
      have : areBtw n lo hi d = false := by
        cases d with
        | tup ds =>
          show (decide _ && ds.all (isBtw lo hi)) = false
          rw [← btw_int, ← Bool.and_assoc]
          have e2 : (decide ((ds.length : Int) = n) && ds.all isInt) = false := e1
          rw [e2]; rfl
        | _ => rfl
      have q := k H1 s1
      rw [this] at q
      exact q
    | true =>
      refine iteT ?_
      cases r.same s1 with
      | tup e z ra =>
        refine ⟨_, rfl, _, rfl, ⟨_, SqT.of e⟩, fun A hA => all_tup e z ra (isBtw lo hi) hA (fun x => rfl) (fun x d H' Q' hd _ rp q => ?_) (fun H' sm sl => ?_)⟩
        · have e2 := (Bool.and_eq_true_iff.mp e1).2
          rw [List.all_eq_true] at e2
          have e3 := e2 d hd
          cases rp with
          | int i =>
            refine ⟨_, rfl, _, rfl, _, _, rfl, rfl, _, rfl, ?_⟩
            by_cases h1 : lo ≤ i
            · rw [decide_eq_true h1]
              refine iteT ?_
              refine ⟨_, rfl, _, _, rfl, rfl, ?_⟩
              have : isBtw lo hi (.int i) = decide (i ≤ hi) := by show (decide (lo ≤ i) && decide (i ≤ hi)) = _; rw [decide_eq_true h1]; rfl
              have q2 := q _ (Same.refl _)
              rw [this] at q2
              exact q2
            · rw [decide_eq_false h1]
              refine iteF ?_
              have : isBtw lo hi (.int i) = false := by show (decide (lo ≤ i) && decide (i ≤ hi)) = _; rw [decide_eq_false h1]; rfl
              have q2 := q _ (Same.refl _)
              rw [this] at q2
              exact q2
          | _ => exact Bool.noConfusion e3
        · refine ⟨_, _, rfl, sl, ?_⟩
          rw [map_all]
          have := k H' (s1.trans sm)
          have e4 := (Bool.and_eq_true_iff.mp e1).1
          rw [areBtw_tup, e4] at this
          exact this
      | _ => exact Bool.noConfusion e1
def spBE : Sp := fun vs H Q _ => ∃ (h : Addr) (n : Int) (v : V) (d : D), vs = [.int n, v] ∧ Rp H h v d ∧ ∀ H', Same H H' → Q (.bl (isBE n d)) H'
theorem be_false {n : Int} {d : D} (e : areBtw 2 0 (n - 1) d = false) : isBE n d = false := by
  unfold isBE
  rw [e]; rfl
theorem be_true {n : Int} {d : D} (e : areBtw 2 0 (n - 1) d = true) : ∃ a b, d = .tup [.int a, .int b] ∧ isBE n d = !decide (a = b) := by
  have e0 := e
  cases d with
  | tup ds =>
    rw [areBtw_tup] at e
    obtain ⟨h1, h2⟩ := Bool.and_eq_true_iff.mp e
    have h3 := of_decide_eq_true h1
    match ds, h3 with
    | [x, y], _ =>
      rw [List.all_cons, List.all_cons, List.all_nil, Bool.and_true] at h2
      obtain ⟨h4, h5⟩ := Bool.and_eq_true_iff.mp h2
      cases x with
      | int a =>
        cases y with
        | int b =>
          refine ⟨a, b, rfl, ?_⟩
          unfold isBE
          rw [e0]; rfl
        | _ => exact Bool.noConfusion h5
      | _ => exact Bool.noConfusion h4
    | [], h => simp at h
    | [_], h => simp at h
    | _ :: _ :: _ :: _, h => simp at h; omega
  | _ => exact Bool.noConfusion e
theorem ok_is_begin_and_end (T : Tx K mg) : FnOk P w K mg base CX0 4 T.is_begin_and_end.f T.is_begin_and_end.fd ["houses", "thing"] spBE := by
  refine T.is_begin_and_end.F.ok sc_is_begin_and_end (fun vs H Q E h => ?_) (fun cdv A outer s H vs Q E hr h => ?_)
  · obtain ⟨_, n, v, d, rfl, _⟩ := h
    rfl
  · obtain ⟨ha, n, v, d, rfl, r, k⟩ := h
    refine ⟨_, (pss_one (ps_ret (pe_and (pe_call (ok_are_between T) (hr.mono (by decide)) rfl T.are_between.g T.are_between.F.kp T.are_between.b .nil pass0 (pa_cons pe_int (pa_cons pe_int (pa_cons (pe_op op_sub (pv 0) pe_int) (pa_cons (pv 1) pa_nil))))) (pe_one (pe_cmpR op_ne (pe_ix ix_tup (pv 1) pe_int (fun _ _ => rfl)) (pe_ix ix_tup (pv 1) pe_int (fun _ _ => rfl)) (nomark _)))))), ?_⟩
    refine ⟨_, rfl, _, _, rfl, rfl, _, rfl, ha, _, _, _, _, _, rfl, r, fun H1 s1 => ⟨_, rfl, ?_⟩⟩
    cases e1 : areBtw 2 0 (n - 1) d with
    | false =>
      refine iteF ?_
      have q := k H1 s1
      rw [be_false e1] at q
      exact q
    | true =>
      refine iteT ?_
      obtain ⟨a, b, rfl, e2⟩ := be_true e1
      have q := k H1 s1
      rw [e2] at q
      cases r.same s1 with
      | tup e z ra =>
        cases ra with
        | cons r1 ra =>
          cases ra with
          | cons r2 ra =>
            cases ra
            cases r1
            cases r2
            refine ⟨_, rfl, _, _, _, _, rfl, rfl, SqT.of e, atI_nat (j := 0) rfl, _, rfl, _, _, _, _, rfl, rfl, SqT.of e, atI_nat (j := 1) rfl, rfl, ?_⟩
            rw [int_eqd]
            exact q
def spRoads : Sp := fun vs H Q _ => ∃ (h : Addr) (n : Int) (v : V) (d : D), vs = [.int n, v] ∧ Rp H h v d ∧ ∀ H', Same H H' → Q (.bl (areRoads n d)) H'
theorem ok_are_roads (T : Tx K mg) : FnOk P w K mg base CX0 5 T.are_roads.f T.are_roads.fd ["houses", "thing"] spRoads := by
  refine T.are_roads.F.ok sc_are_roads (fun vs H Q E h => ?_) (fun cdv A outer s H vs Q E hr h => ?_)
  · obtain ⟨_, n, v, d, rfl, _⟩ := h
    rfl
  · obtain ⟨ha, n, v, d, rfl, r, k⟩ := h
    refine ⟨_, (pss_one (ps_ret (pe_and (pe_callB call_isi (by rfl) T.n_isinstance (by decide +kernel) (pa_cons (pv 1) (pa_cons (pe_bltn (v := .ty "tuple") (by rfl) T.n_tuple (by decide +kernel) rfl) pa_nil))) (pe_and (pe_chain op_le op_le pe_int (pe_callB call_len_seq (by rfl) T.n_len (by decide +kernel) (pa_cons (pv 1) pa_nil)) (pe_glob (v := .int 24) rfl T.c_MOST_ROADS.choose_spec ⟨_, rfl⟩)) (pe_one (pe_callB (cr_all rfl) (by rfl) T.n_all (by decide +kernel) (pa_cons (pe_lc (own := [("road", 2)]) (g := (gName 2)) (tt := tYes) rfl sc_are_roads.nd (pi_tup (pv 1)) (blkOk_by (own := [("road", 2)]) (N := ["houses", "thing", "road"]) (sc := defScope s_are_roads) (by decide +kernel)) (fun _ _ _ _ _ => (pg_name (i := 2) sc_are_roads.nd rfl (Or.inl rfl))) (fun _ _ _ _ _ => pts_nil) (fun _ _ _ _ _ => (by exact (pe_call (ok_is_begin_and_end T) (hr.mono (by decide)) rfl T.is_begin_and_end.g T.is_begin_and_end.F.kp T.is_begin_and_end.b .nil pass0 (pa_cons (pv 0) (pa_cons (pv 2) pa_nil)))))) pa_nil))))))), ?_⟩
    refine ⟨_, rfl, _, _, _, _, _, rfl, .ty "tuple", r.ty, kit_ty (kitT d), _, rfl, ?_⟩
    cases r with
    | @tup _ xs ds e z ra =>
      refine iteT ?_
      refine ⟨_, rfl, _, _, rfl, .inr (SqT.of e), _, _, rfl, rfl, _, rfl, ?_⟩
      rw [ra.len]
      by_cases h1 : 1 ≤ ds.length
      · rw [decide_eq_true (show (1 : Int) ≤ (ds.length : Int) by omega)]
        refine iteT ?_
        refine ⟨_, _, rfl, rfl, _, rfl, ?_⟩
        by_cases h2 : ds.length ≤ 24
        · rw [decide_eq_true (show (ds.length : Int) ≤ 24 by omega)]
          refine iteT ?_
          refine ⟨_, rfl, _, rfl, ⟨_, SqT.of e⟩, fun A hA => all_tup e z ra (isBE n) hA (fun x => rfl) (fun x d H' Q' _ _ rp q => ?_) (fun H' sm sl => ?_)⟩
          · exact ⟨_, rfl, _, rfl, ha, _, _, _, rfl, rp, q⟩
          · refine ⟨_, _, rfl, sl, ?_⟩
            rw [map_all]
            have := k H' sm
            rw [areRoads_tup, decide_eq_true h1, decide_eq_true h2] at this
            exact this
        · rw [decide_eq_false (show ¬ (ds.length : Int) ≤ 24 by omega)]
          refine iteF ?_
          have := k H (Same.refl _)
          rw [areRoads_tup, decide_eq_true h1, decide_eq_false h2] at this
          exact this
      · rw [decide_eq_false (show ¬ (1 : Int) ≤ (ds.length : Int) by omega)]
        refine iteF ?_
        have := k H (Same.refl _)
        rw [areRoads_tup, decide_eq_false h1] at this
        exact ⟨_, rfl, iteF this⟩
    | _ => exact iteF (k H (Same.refl _))
theorem btw_shape {lo hi : Int} {d : D} (e : isBtw lo hi d = true) : ∃ n, d = .int n := by
  cases d with
  | int n => exact ⟨n, rfl⟩
  | _ => exact Bool.noConfusion e
theorem roads_shape {n : Int} {d : D} (e : areRoads n d = true) : ∃ ds, d = .tup ds := by
  cases d with
  | tup ds => exact ⟨ds, rfl⟩
  | _ => exact Bool.noConfusion e
theorem tup_inv {H : Hp} {h : Addr} {v : V} {ds : List D} (r : Rp H h v (.tup ds)) : ∃ a xs, v = .ref a ∧ H a = some (.tup xs) ∧ xs.length ≤ 100000 ∧ RpA H h xs ds := by
  cases r with
  | tup e z ra => exact ⟨_, _, rfl, e, z, ra⟩
theorem int_inv {H : Hp} {h : Addr} {v : V} {i : Int} (r : Rp H h v (.int i)) : v = .int i := by
  cases r; rfl
theorem putF_lt {f : Str} {v : V} : ∀ {fs : List (Str × V)} {n : Nat}, fs.length < n → (putF f v fs).length < n + 1
  | [], n, h => by show 1 < n + 1; have : 0 < n := h; omega
  | (g, w) :: fs, n, h => by
    have h' : fs.length + 1 < n := h
    show (if g = f then (g, v) :: fs else (g, w) :: putF f v fs).length < n + 1
    by_cases e : g = f
    · rw [if_pos e]; show fs.length + 1 < n + 1; omega
    · rw [if_neg e]
      have := putF_lt (f := f) (v := v) (fs := fs) (n := n - 1) (by omega)
      show (putF f v fs).length + 1 < n + 1
      omega
/-- the error's own dict behind it -/
def spInitE (C : Addr) (f : Str) : Sp := fun vs H Q _ => ∃ (a : Addr) (y : V), vs = [.ref a, y] ∧ H a = some (exo a C none) ∧
  ∀ dx, H dx = none → dx ≠ a → Q .non (upd (upd H dx (exd dx [(f, y)])) a (exo a C (some dx)))
theorem ok_BadWeb___init (T : Tx K mg) : FnOk P w K mg base (L2.CX P w) 1 T.x_BadWeb.f T.x_BadWeb.fd ["self", "part"] (spInitE T.x_BadWeb.C "part") := by
  refine T.x_BadWeb.F.okX sc_BadWeb___init (fun vs H Q E h => ?_) (fun cdv A outer s H vs Q E hr h => ?_)
  · obtain ⟨a, y, rfl, _⟩ := h
    rfl
  · obtain ⟨a, y, rfl, ha, k⟩ := h
    refine ⟨_, pss_one (ps_ost (pv 0) (pv 1)), ?_⟩
    exact ⟨_, rfl, _, rfl, a, T.x_BadWeb.C, rfl, T.x_BadWeb.T, T.x_BadWeb.no _ (by simp), .inl ⟨ha, fun dx n ne => k dx n ne⟩⟩
def dlen : D → Nat | .tup ds => ds.length | _ => 0
def num : D → Int | .int i => i | _ => 0
/-- the first part that is not as told -/
def due (d1 d2 d3 d4 : D) : Option Str :=
  if isBtw 2 12 d1 = false then some "houses" else if areRoads (num d1) d2 = false then some "roads"
  else if areBtw (dlen d2) 1 3 d3 = false then some "rooms" else if areBtw (dlen d2) 1 3 d4 = false then some "times" else none
def webF (v1 v2 v3 v4 : V) : List (Str × V) := putF "times" v4 (putF "rooms" v3 (putF "roads" v2 (putF "houses" v1 [])))
def spWeb (C CB : Addr) : Sp := fun vs H Q E => ∃ (h p dx : Addr) (v1 v2 v3 v4 : V) (d1 d2 d3 d4 : D), vs = [.ref p, v1, v2, v3, v4] ∧ H p = some (.ins C dx []) ∧
  Rp H h v1 d1 ∧ Rp H h v2 d2 ∧ Rp H h v3 d3 ∧ Rp H h v4 d4 ∧
  (due d1 d2 d3 d4 = none → ∀ H', But p H H' → H' p = some (.ins C dx (webF v1 v2 v3 v4)) → Q .non H') ∧
  (∀ part, due d1 d2 d3 d4 = some part → ∀ H' d, Same H H' → H' d = some (.xd [("part", .str part)]) → E (.ref CB) (some d) H')
theorem err_same {H H1 : Hp} {a d C : Addr} {f : Str} {y : V} (s : Same H H1) (ha : H1 a = none) (hd : (upd H1 a (exo a C none)) d = none) (ne : d ≠ a) :
    Same H (upd (del (upd (upd (upd H1 a (exo a C none)) d (exd d [(f, y)])) a (exo a C (some d))) a) d (.xd [(f, y)])) := fun b o q => by
  have q1 := s b o q
  have n1 : b ≠ a := ne_of_none q1 ha
  have n2 : b ≠ d := fun z => by subst z; rw [upd_ne n1, q1] at hd; cases hd
  rw [upd_ne n2, del_ne n1, upd_ne n1, upd_ne n2, upd_ne n1]
  exact q1
theorem ok_Web___init (T : Tx K mg) : FnOk P w K mg base (L2.CX P w) 7 T.Web.f T.Web.fd ["self", "houses", "roads", "rooms", "times"] (spWeb T.Web.C T.x_BadWeb.C) := by
  refine T.Web.F.okX sc_Web___init (fun vs H Q E h => ?_) (fun cdv A outer s H vs Q E hr h => ?_)
  · obtain ⟨ha, p, dx, v1, v2, v3, v4, d1, d2, d3, d4, rfl, _⟩ := h
    rfl
  · obtain ⟨ha, p, dx, v1, v2, v3, v4, d1, d2, d3, d4, rfl, hp, r1, r2, r3, r4, kq, ke⟩ := h
    refine ⟨_, (pss_cons (ps_if (pt_not (pt_val (pe_call (ok_is_between T) (hr.mono (by decide)) rfl T.is_between.g T.is_between.F.kp T.is_between.b .nil pass0 (pa_cons pe_int (pa_cons (pe_glob (v := .int 12) rfl T.c_MOST_HOUSES.choose_spec ⟨_, rfl⟩) (pa_cons (pv 1) pa_nil))))))
      (pss_one (ps_raise rfl (takes_of rfl rfl rfl rfl) (pmk_oex T.x_BadWeb.T T.x_BadWeb.iC T.x_BadWeb.tI (ok_BadWeb___init T) (hr.mono (by decide)) T.x_BadWeb.b .nil passL rfl T.x_BadWeb.g (pa_cons pe_str pa_nil))))
      pss_nil)
      (pss_cons (ps_if (pt_not (pt_val (pe_call (ok_are_roads T) (hr.mono (by decide)) rfl T.are_roads.g T.are_roads.F.kp T.are_roads.b .nil pass0 (pa_cons (pv 1) (pa_cons (pv 2) pa_nil)))))
      (pss_one (ps_raise rfl (takes_of rfl rfl rfl rfl) (pmk_oex T.x_BadWeb.T T.x_BadWeb.iC T.x_BadWeb.tI (ok_BadWeb___init T) (hr.mono (by decide)) T.x_BadWeb.b .nil passL rfl T.x_BadWeb.g (pa_cons pe_str pa_nil))))
      pss_nil)
      (pss_cons (ps_if (pt_not (pt_val (pe_call (ok_are_between T) (hr.mono (by decide)) rfl T.are_between.g T.are_between.F.kp T.are_between.b .nil pass0 (pa_cons (pe_callB call_len_seq (by rfl) T.n_len (by decide +kernel) (pa_cons (pv 2) pa_nil)) (pa_cons pe_int (pa_cons (pe_glob (v := .int 3) rfl T.c_MOST_ROOMS.choose_spec ⟨_, rfl⟩) (pa_cons (pv 3) pa_nil)))))))
      (pss_one (ps_raise rfl (takes_of rfl rfl rfl rfl) (pmk_oex T.x_BadWeb.T T.x_BadWeb.iC T.x_BadWeb.tI (ok_BadWeb___init T) (hr.mono (by decide)) T.x_BadWeb.b .nil passL rfl T.x_BadWeb.g (pa_cons pe_str pa_nil))))
      pss_nil)
      (pss_cons (ps_if (pt_not (pt_val (pe_call (ok_are_between T) (hr.mono (by decide)) rfl T.are_between.g T.are_between.F.kp T.are_between.b .nil pass0 (pa_cons (pe_callB call_len_seq (by rfl) T.n_len (by decide +kernel) (pa_cons (pv 2) pa_nil)) (pa_cons pe_int (pa_cons (pe_glob (v := .int 3) rfl T.c_LONGEST_TIME.choose_spec ⟨_, rfl⟩) (pa_cons (pv 4) pa_nil)))))))
      (pss_one (ps_raise rfl (takes_of rfl rfl rfl rfl) (pmk_oex T.x_BadWeb.T T.x_BadWeb.iC T.x_BadWeb.tI (ok_BadWeb___init T) (hr.mono (by decide)) T.x_BadWeb.b .nil passL rfl T.x_BadWeb.g (pa_cons pe_str pa_nil))))
      pss_nil)
      (pss_cons (ps_fld (pv 0) (pv 1) rfl)
      (pss_cons (ps_fld (pv 0) (pv 2) rfl)
      (pss_cons (ps_fld (pv 0) (pv 3) rfl)
      (pss_one (ps_fld (pv 0) (pv 4) rfl))))))))), ?_⟩
    have raise : ∀ (part : Str) (H1 : Hp), Same H H1 → due d1 d2 d3 d4 = some part → ∀ a, H1 a = none →
        spInitE T.x_BadWeb.C "part" [.ref a, .str part] (upd H1 a (exo a T.x_BadWeb.C none)) (fun v H2 => v = .non ∧ ∃ (d : Addr) (fs : List (Str × V)), H2 a = some (exo a T.x_BadWeb.C (some d)) ∧ H2 d = some (exd d fs) ∧ H1 d = none ∧
          E (.ref T.x_BadWeb.C) (some d) (upd (del H2 a) d (.xd fs))) (fun _ _ _ => False) := by
      intro part H1 s1 hdue a hA
      refine ⟨a, _, rfl, upd_same, fun d hd nd => ⟨rfl, d, [("part", .str part)], upd_same, ?_, ?_, ?_⟩⟩
      · rw [upd_ne nd, upd_same]
      · rw [upd_ne nd] at hd; exact hd
      · exact ke part hdue _ d (err_same s1 hA hd nd) upd_same
    refine ⟨_, rfl, ha, _, _, _, _, rfl, r1, _, rfl, ?_⟩
    cases e1 : isBtw 2 12 d1 with
    | false =>
      refine iteT ⟨by show 1 ≤ 1000; decide, fun a hA => raise _ H (Same.refl _) (if_pos e1) a hA⟩
    | true =>
    refine iteF ?_
    have x1 : ¬ isBtw 2 12 d1 = false := by rw [e1]; decide
    obtain ⟨n, rfl⟩ := btw_shape e1
    cases r1
    refine ⟨_, rfl, _, rfl, ha, _, _, _, rfl, r2, fun H1 s1 => ⟨_, rfl, ?_⟩⟩
    cases e2 : areRoads n d2 with
    | false =>
      refine iteT ⟨by show 1 ≤ 1000; decide, fun a hA => raise _ H1 s1 ((if_neg x1).trans (if_pos e2)) a hA⟩
    | true =>
    refine iteF ?_
    have x2 : ¬ areRoads (num (.int n)) d2 = false := by show ¬ areRoads n d2 = false; rw [e2]; decide
    obtain ⟨ds, rfl⟩ := roads_shape e2
    obtain ⟨pa, xs, rfl, ea, za, ra⟩ := tup_inv r2
    refine ⟨_, rfl, _, _, rfl, .inr (SqT.of (s1 _ _ ea)), _, rfl, ha, _, _, _, _, _, rfl, r3.same s1, fun H2 s2 => ⟨_, rfl, ?_⟩⟩
    rw [ra.len]
    cases e3 : areBtw (ds.length : Int) 1 3 d3 with
    | false =>
      refine iteT ⟨by show 1 ≤ 1000; decide, fun a hA => raise _ H2 (s1.trans s2) ((if_neg x1).trans ((if_neg x2).trans (if_pos e3))) a hA⟩
    | true =>
    refine iteF ?_
    have x3 : ¬ areBtw (dlen (.tup ds)) 1 3 d3 = false := by show ¬ areBtw (ds.length : Int) 1 3 d3 = false; rw [e3]; decide
    refine ⟨_, rfl, _, _, rfl, .inr (SqT.of (s2 _ _ (s1 _ _ ea))), _, rfl, ha, _, _, _, _, _, rfl, (r4.same s1).same s2, fun H3 s3 => ⟨_, rfl, ?_⟩⟩
    rw [ra.len]
    cases e4 : areBtw (ds.length : Int) 1 3 d4 with
    | false =>
      refine iteT ⟨by show 1 ≤ 1000; decide, fun a hA => raise _ H3 ((s1.trans s2).trans s3) ((if_neg x1).trans ((if_neg x2).trans ((if_neg x3).trans (if_pos e4)))) a hA⟩
    | true =>
    refine iteF ?_
    have x4 : ¬ areBtw (dlen (.tup ds)) 1 3 d4 = false := by show ¬ areBtw (ds.length : Int) 1 3 d4 = false; rw [e4]; decide
    have sm := (s1.trans s2).trans s3
    have no : ∀ f ∈ (["houses", "roads", "rooms", "times"] : List Str), NoAttr K T.Web.C f := T.Web.no
    refine ⟨_, rfl, _, rfl, p, T.Web.C, dx, _, rfl, sm _ _ hp, T.Web.cl, no _ (by simp), (by decide), ?_⟩
    refine ⟨_, rfl, _, rfl, p, T.Web.C, dx, _, rfl, upd_same, T.Web.cl, no _ (by simp), (putF_lt (n := 999) (by decide)), ?_⟩
    refine ⟨_, rfl, _, rfl, p, T.Web.C, dx, _, rfl, upd_same, T.Web.cl, no _ (by simp), (putF_lt (n := 999) (putF_lt (n := 998) (by decide))), ?_⟩
    refine ⟨_, rfl, _, rfl, p, T.Web.C, dx, _, rfl, upd_same, T.Web.cl, no _ (by simp), (putF_lt (n := 999) (putF_lt (n := 998) (putF_lt (n := 997) (by decide)))), ?_⟩
    refine kq ((if_neg x1).trans ((if_neg x2).trans ((if_neg x3).trans (if_neg x4)))) _ (fun b o q n => ?_) upd_same
    rw [upd_ne n, upd_ne n, upd_ne n, upd_ne n]
    exact sm _ _ q
end
end Hc


set_option Elab.async false
set_option linter.all false
set_option maxRecDepth 100000
set_option maxHeartbeats 4000000
set_option autoImplicit false
namespace Hc
open PySem L2
/-- the hand: the script's cells at c, and four numbers -/
def HandAt (H : Hp) (h c : Addr) : Prop := ∃ (ns : List Int) (i d s t : Int), H h = some (.lst [.ref c, .int i, .int d, .int s, .int t]) ∧ H c = some (.lst (ns.map V.int)) ∧ 0 ≤ i ∧ c ≠ h
theorem HandAt.lst {H : Hp} {h c : Addr} (a : HandAt H h c) : IsLst H h := by
  obtain ⟨ns, i, d, s, t, e, _⟩ := a
  exact ⟨_, e⟩
theorem HandAt.ne {H : Hp} {h c : Addr} (a : HandAt H h c) {D : Addr} (hD : H D = none) : D ≠ h ∧ D ≠ c := by
  obtain ⟨ns, i, d, s, t, e, hc, _⟩ := a
  exact ⟨fun z => ne_of_none e hD z.symm, fun z => ne_of_none hc hD z.symm⟩
theorem HandAt.upd {H : Hp} {h c : Addr} (a : HandAt H h c) {D : Addr} {o : HO} (h1 : D ≠ h) (h2 : D ≠ c) : HandAt (upd H D o) h c := by
  obtain ⟨ns, i, d, s, t, e, hc, hi, hn⟩ := a
  exact ⟨ns, i, d, s, t, by rw [upd_ne (Ne.symm h1)]; exact e, by rw [upd_ne (Ne.symm h2)]; exact hc, hi, hn⟩
theorem HandAt.mono {H H' : Hp} {h c : Addr} (a : HandAt H h c) (k : Same H H') : HandAt H' h c := by
  obtain ⟨ns, i, d, s, t, e, hc, hi, hn⟩ := a
  exact ⟨ns, i, d, s, t, k _ _ e, k _ _ hc, hi, hn⟩
theorem But.upd {h D : Addr} {H H' : Hp} {o : HO} (k : But h H H') (hD : H D = none) : But h H (upd H' D o) := fun b u e n => by
  rw [upd_ne (ne_of_none e hD)]
  exact k _ _ e n
section
variable {P : Program} {w : World} {K : PySem.W.Frag} {mg : Str → Option Value} {base : Heap}
def spDraw : Sp := fun vs H Q _ => ∃ (h c : Addr) (m : Int), vs = [.ref h, .int m] ∧ HandAt H h c ∧ 0 < m ∧ m < 1000000 ∧
  ∀ n H', 0 ≤ n → n < m → HandAt H' h c → But h H H' → Q (.int n) H'
theorem mod_range (x : Int) {m : Int} (h : 0 < m) : 0 ≤ x.fmod m ∧ x.fmod m < m := by
  rw [Int.fmod_eq_emod_of_nonneg x (by omega)]
  exact ⟨Int.emod_nonneg x (by omega), Int.emod_lt_of_pos x h⟩
theorem ok__law_draw (T : Tx K mg) : FnOk P w K mg base CX0 1 T._law_draw.f T._law_draw.fd ["_law_hand_here", "_law_many"] spDraw := by
  refine T._law_draw.F.ok sc_law_draw (fun vs H Q E h => ?_) (fun cdv A outer s H vs Q E hr h => ?_)
  · obtain ⟨h, c, m, rfl, _⟩ := h
    rfl
  · obtain ⟨h, c, m, rfl, hA, m0, m1, k⟩ := h
    refine ⟨_, (C8.pss_cut (ps_if (PW.pt (pw_and (pt_cmpR op_eq (pe_ix ix_list (pv 0) pe_int (fun _ _ => rfl)) pe_int (nomark _)) (pw_and1 (pt_cmpR op_lt (pe_ix ix_list (pv 0) pe_int (fun _ _ => rfl)) (pe_callB call_len_seq (by rfl) T.n_len (by decide +kernel) (pa_cons (pe_ix ix_list (pv 0) pe_int (fun _ _ => rfl)) pa_nil)) (nomark _)))))
      (pss_cons (ps_set (i := 2) sc_law_draw.nd rfl (Or.inl rfl) (pe_ix ix_list (pe_ix ix_list (pv 0) pe_int (fun _ _ => rfl)) (pe_ix ix_list (pv 0) pe_int (fun _ _ => rfl)) (fun _ _ => rfl)))
      (pss_cons (ps_asg (pe_op op_add (pe_ix ix_list (pv 0) pe_int (fun _ _ => rfl)) pe_int) (pg_sub (pv 0) pe_int set_list))
      (pss_cons (ps_asg (pe_op op_modN (pe_callTy call_int1 (by rfl) T.n_int (by decide +kernel) (pa_cons (pe_op op_add (pe_op op_add (pe_op op_mul (pe_ix ix_list (pv 0) pe_int (fun _ _ => rfl)) pe_int) (pv 2)) pe_int) pa_nil)) pe_int) (pg_sub (pv 0) pe_int set_list))
      (pss_one (ps_if (pt_cmpR op_ge (pv 2) (pe_op op_pow pe_int pe_int) (nomark _))
      (pss_one (ps_asg (pv 2) (pg_sub (pv 0) pe_int set_list)))
      pss_nil)))))
      pss_nil)
      (pss_cons (ps_if (pt_cmpR op_gt (pe_ix ix_list (pv 0) pe_int (fun _ _ => rfl)) pe_int (nomark _))
      (pss_cons (ps_set (i := 3) sc_law_draw.nd rfl (Or.inl rfl) (pe_op op_modN (pe_callTy call_int1 (by rfl) T.n_int (by decide +kernel) (pa_cons (pe_ix ix_list (pv 0) pe_int (fun _ _ => rfl)) pa_nil)) (pv 1)))
      (pss_cons (ps_asg (pe_op op_fdivN (pe_ix ix_list (pv 0) pe_int (fun _ _ => rfl)) (pv 1)) (pg_sub (pv 0) pe_int set_list))
      (pss_one (ps_ret (pv 3)))))
      pss_nil)
      (pss_cons (ps_asg (pe_op op_add (pe_ix ix_list (pv 0) pe_int (fun _ _ => rfl)) pe_int) (pg_sub (pv 0) pe_int set_list))
      (pss_cons (ps_set (i := 4) sc_law_draw.nd rfl (Or.inl rfl) (pe_op op_modN (pe_callTy call_int1 (by rfl) T.n_int (by decide +kernel) (pa_cons (pe_op op_mul (pe_callTy call_int1 (by rfl) T.n_int (by decide +kernel) (pa_cons (pe_op op_add (pe_ix ix_list (pv 0) pe_int (fun _ _ => rfl)) (pe_op op_mul pe_int (pe_ix ix_list (pv 0) pe_int (fun _ _ => rfl)))) pa_nil)) pe_int) pa_nil)) pe_int))
      (pss_cons (ps_set (i := 4) sc_law_draw.nd rfl (Or.inl rfl) (pe_op op_modN (pe_callTy call_int1 (by rfl) T.n_int (by decide +kernel) (pa_cons (pe_op op_mul (pv 4) (pe_op op_add (pe_op op_fdivN (pv 4) pe_int) pe_int)) pa_nil)) pe_int))
      (pss_cons (ps_set (i := 4) sc_law_draw.nd rfl (Or.inl rfl) (pe_op op_modN (pe_callTy call_int1 (by rfl) T.n_int (by decide +kernel) (pa_cons (pe_op op_mul (pv 4) (pe_op op_add (pe_op op_fdivN (pv 4) pe_int) pe_int)) pa_nil)) pe_int))
      (pss_one (ps_ret (pe_op op_modN (pe_callTy call_int1 (by rfl) T.n_int (by decide +kernel) (pa_cons (pe_op op_fdivN (pv 4) pe_int) pa_nil)) (pv 1)))))))))), ?_⟩
    refine ⟨fun σ' H' => ∃ cv : Option V, σ' = [some (.ref h), some (.int m), cv, none, none] ∧ HandAt H' h c ∧ But h H H', ?_, ?_⟩
    · obtain ⟨ns, i, d, s, t, hh, hc, hi, hn⟩ := id hA
      refine ⟨_, rfl, h, _, _, _, rfl, rfl, SqL.of hh, atI_nat (j := 2) rfl, rfl, _, rfl, ?_⟩
      rw [int_eqd]
      by_cases h0 : d = 0
      · rw [decide_eq_true h0]
        refine iteT ?_
        refine ⟨_, rfl, h, _, _, _, rfl, rfl, SqL.of hh, atI_nat (j := 1) rfl, _, rfl, h, _, _, _, rfl, rfl, SqL.of hh, atI_nat (j := 0) rfl, c, _, rfl, .inl (SqL.of hc), _, _, rfl, rfl, _, rfl, ?_⟩
        rw [List.length_map]
        by_cases h1 : i < ns.length
        · rw [decide_eq_true h1]
          refine iteT ?_
          obtain ⟨j, rfl⟩ := Int.eq_ofNat_of_zero_le hi
          have hj : j < ns.length := by omega
          have hx : (ns.map V.int)[j]? = some (.int ns[j]) := by rw [List.getElem?_map, List.getElem?_eq_getElem hj]; rfl
          refine ⟨_, rfl, h, _, _, _, rfl, rfl, SqL.of hh, atI_nat (j := 0) rfl, _, rfl, h, _, _, _, rfl, rfl, SqL.of hh, atI_nat (j := 1) rfl, c, _, _, _, rfl, rfl, SqL.of hc, atI_nat hx, ?_⟩
          -- hand[1] = hand[1] + 1
          refine ⟨_, rfl, h, _, _, _, rfl, rfl, SqL.of hh, atI_nat (j := 1) rfl, _, _, rfl, rfl, _, rfl, h, _, 1, 1, rfl, rfl, hh, rfl, ?_⟩
          -- hand[3] = ..
          refine ⟨_, rfl, h, _, _, _, rfl, rfl, SqL.of upd_same, atI_nat (j := 3) rfl, _, _, rfl, rfl, .inr ⟨by decide, by decide⟩, _, rfl, _, _, rfl, rfl, _, _, rfl, rfl, .inl ⟨_, rfl, _, _, rfl, rfl, (show (2147483629 : Int) ≠ 0 by decide), _, rfl, h, _, 3, 3, rfl, rfl, upd_same, rfl, ?_⟩⟩
          refine ⟨_, rfl, _, _, rfl, rfl, ⟨by decide, by decide, by decide⟩, _, _, rfl, rfl, _, rfl, ?_⟩
          have bt : ∀ {H1 : Hp} {xs}, But h H H1 → But h H (upd H1 h xs) := fun b => b.trans but_upd
          refine ite2 (fun _ => ?_) (fun _ => ?_)
          · refine ⟨_, rfl, _, rfl, h, _, 2, 2, rfl, rfl, upd_same, rfl, ?_⟩
            exact ⟨_, rfl, ⟨ns, _, _, _, _, upd_same, (bt (bt (bt (But.refl h H)))) _ _ hc hn, by omega, hn⟩, bt (bt (bt (But.refl h H)))⟩
          · exact ⟨_, rfl, ⟨ns, _, _, _, _, upd_same, (bt (bt (But.refl h H))) _ _ hc hn, by omega, hn⟩, bt (bt (But.refl h H))⟩
        · rw [decide_eq_false h1]
          exact iteF ⟨_, rfl, hA, But.refl h H⟩
      · rw [decide_eq_false h0]
        exact iteF (iteF ⟨_, rfl, hA, But.refl h H⟩)
    · rintro σ' H1 ⟨cv, rfl, hA1, b1⟩
      obtain ⟨ns, i, d, s, t, hh, hc, hi, hn⟩ := id hA1
      have bt : ∀ {H2 : Hp} {xs}, But h H H2 → But h H (upd H2 h xs) := fun b => b.trans but_upd
      have bu : ∀ {H2 : Hp} {xs}, But h H1 H2 → But h H1 (upd H2 h xs) := fun b => b.trans but_upd
      refine ⟨_, rfl, h, _, _, _, rfl, rfl, SqL.of hh, atI_nat (j := 2) rfl, _, _, rfl, rfl, _, rfl, ?_⟩
      refine ite2 (fun _ => ?_) (fun _ => ?_)
      · refine ⟨_, rfl, h, _, _, _, rfl, rfl, SqL.of hh, atI_nat (j := 2) rfl, .inl ⟨_, rfl, _, rfl, _, _, rfl, rfl, by omega, ?_⟩⟩
        refine ⟨_, rfl, h, _, _, _, rfl, rfl, SqL.of hh, atI_nat (j := 2) rfl, _, rfl, _, _, rfl, rfl, ⟨by omega, by omega⟩, _, rfl, h, _, 2, 2, rfl, rfl, hh, rfl, ?_⟩
        obtain ⟨q1, q2⟩ := mod_range d m0
        exact ⟨_, rfl, k _ _ q1 q2 ⟨ns, _, _, _, _, upd_same, (bu (But.refl h H1)) _ _ hc hn, hi, hn⟩ (bt b1)⟩
      · refine ⟨_, rfl, h, _, _, _, rfl, rfl, SqL.of hh, atI_nat (j := 4) rfl, _, _, rfl, rfl, _, rfl, h, _, 4, 4, rfl, rfl, hh, rfl, ?_⟩
        refine ⟨_, rfl, h, _, _, _, rfl, rfl, SqL.of upd_same, atI_nat (j := 3) rfl, _, rfl, h, _, _, _, rfl, rfl, SqL.of upd_same, atI_nat (j := 4) rfl, _, _, rfl, rfl, .inl ⟨by decide, by decide⟩, _, _, rfl, rfl, .inl ⟨_, rfl, _, _, rfl, rfl, .inr ⟨by decide, by decide⟩, .inl ⟨_, rfl, _, _, rfl, rfl, (show (2147483647 : Int) ≠ 0 by decide), ?_⟩⟩⟩
        obtain ⟨u1, u2⟩ := mod_range ((s + 7919 * (t + 1)) * 48271) (m := 2147483647) (by decide)
        obtain ⟨x, hx⟩ : ∃ x, x = ((s + 7919 * (t + 1)) * 48271).fmod 2147483647 := ⟨_, rfl⟩
        rw [← hx] at u1 u2
        refine ⟨_, rfl, _, rfl, _, _, rfl, rfl, ⟨by decide, by decide⟩, _, _, rfl, rfl, _, _, rfl, rfl, .inl ⟨by rw [← hx]; omega, by rw [← hx]; omega⟩, .inl ⟨_, rfl, _, _, rfl, rfl, (show (2147483647 : Int) ≠ 0 by decide), ?_⟩⟩
        rw [← hx]
        obtain ⟨u1, u2⟩ := mod_range (x * (x.fdiv 1009 + 69621)) (m := 2147483647) (by decide)
        obtain ⟨y, hy⟩ : ∃ y, y = (x * (x.fdiv 1009 + 69621)).fmod 2147483647 := ⟨_, rfl⟩
        rw [← hy] at u1 u2
        refine ⟨_, rfl, _, rfl, _, _, rfl, rfl, ⟨by decide, by decide⟩, _, _, rfl, rfl, _, _, rfl, rfl, .inl ⟨by rw [← hy]; omega, by rw [← hy]; omega⟩, .inl ⟨_, rfl, _, _, rfl, rfl, (show (2147483399 : Int) ≠ 0 by decide), ?_⟩⟩
        rw [← hy]
        refine ⟨_, rfl, _, _, rfl, rfl, ⟨by decide, by decide⟩, .inl ⟨_, rfl, _, rfl, _, _, rfl, rfl, by omega, ?_⟩⟩
        obtain ⟨q1, q2⟩ := mod_range (((y * (y.fdiv 2003 + 40692)).fmod 2147483399).fdiv 16) m0
        exact k _ _ q1 q2 ⟨ns, _, _, _, _, upd_same, (bu (But.refl h H1)) _ _ hc hn, hi, hn⟩ (bt b1)
end
end Hc


set_option Elab.async false
set_option linter.all false
set_option maxRecDepth 100000
set_option maxHeartbeats 4000000
set_option autoImplicit false
namespace Hc
open PySem L2
theorem But.del {h p : Addr} {H H' : Hp} (k : But h H H') : But h (del H p) (del H' p) := fun b o e n => by
  by_cases z : b = p
  · subst z; rw [del_same] at e; cases e
  · rw [del_ne z] at e ⊢; exact k _ _ e n
theorem del_upd {H : Hp} {p : Addr} {o : HO} : del (upd H p o) p = del H p := by
  funext b
  by_cases z : b = p
  · subst z; rw [del_same, del_same]
  · rw [del_ne z, del_ne z, upd_ne z]
theorem del_sub {H : Hp} {p : Addr} : Same (del H p) H := fun b o e => by
  by_cases z : b = p
  · subst z; rw [del_same] at e; cases e
  · rw [del_ne z] at e; exact e
theorem del_new {H : Hp} {p q : Addr} {o : HO} (hq : H q = none) : Same (del H p) (del (upd H q o) p) := fun b u e => by
  by_cases z : b = p
  · subst z; rw [del_same] at e; cases e
  · rw [del_ne z] at e ⊢
    rw [upd_ne (ne_of_none e hq)]; exact e
theorem btw_of {lo hi i : Int} (a : lo ≤ i) (b : i ≤ hi) : isBtw lo hi (.int i) = true := by
  show (decide (lo ≤ i) && decide (i ≤ hi)) = true
  rw [decide_eq_true a, decide_eq_true b]; rfl
theorem RpA.ints {H : Hp} {h : Addr} : ∀ ns : List Int, RpA H h (ns.map V.int) (ns.map D.int)
  | [] => .nil
  | n :: r => .cons (.int n) (RpA.ints r)
theorem RpA.rep {H : Hp} {h : Addr} {v : V} {d : D} (r : Rp H h v d) : ∀ n : Nat, RpA H h (List.replicate n [v]).flatten (List.replicate n d)
  | 0 => .nil
  | n + 1 => by
    rw [List.replicate_succ, List.replicate_succ, List.flatten_cons]
    exact .cons r (RpA.rep r n)
theorem tyes {σ : St} {H : Hp} {A B : Hp → Prop} (h : A H) : tYes σ H (fun b H3 => if b = true then A H3 else B H3) := by
  unfold tYes
  show if true = true then A H else B H
  rw [if_pos rfl]
  exact h
theorem RpA.snoc_inv {H : Hp} {h : Addr} {d : D} : ∀ {ds : List D} {vs : List V}, RpA H h vs (ds ++ [d]) → ∃ vs' v, vs = vs' ++ [v] ∧ Rp H h v d
  | [], _, .cons r .nil => ⟨[], _, rfl, r⟩
  | e :: ds, _, .cons r q => by
    obtain ⟨vs', v, rfl, k⟩ := RpA.snoc_inv (ds := ds) q
    exact ⟨_ :: vs', v, rfl, k⟩
section
variable {P : Program} {w : World} {K : PySem.W.Frag} {mg : Str → Option Value} {base : Heap}
def spCounts : Sp := fun vs H Q _ => ∃ (h c : Addr) (m : Int), vs = [.ref h, .int m] ∧ HandAt H h c ∧ 0 < m ∧ m ≤ 1000 ∧
  ∀ v d H', HandAt H' h c → But h H H' → Rp H' h v d → areBtw m 1 3 d = true → Q v H'
theorem ok__law_counts (T : Tx K mg) : FnOk P w K mg base CX0 2 T._law_counts.f T._law_counts.fd ["_law_hand_here", "_law_many"] spCounts := by
  refine T._law_counts.F.ok sc_law_counts (fun vs H Q E h => ?_) (fun cdv A outer s H vs Q E hr h => ?_)
  · obtain ⟨h, c, m, rfl, _⟩ := h
    rfl
  · obtain ⟨h, c, m, rfl, hA, m0, m1, k⟩ := h
    refine ⟨_, (pss_cons (ps_if (pt_cmpR op_gt (pe_call (ok__law_draw T) (hr.mono (by decide)) rfl T._law_draw.g T._law_draw.F.kp T._law_draw.b .nil pass0 (pa_cons (pv 0) (pa_cons pe_int pa_nil))) pe_int (nomark _))
      (pss_one (ps_ret (pe_op op_repA (pe_tup (pa_cons pe_int pa_nil)) (pv 1))))
      pss_nil)
      (pss_one (ps_ret (pe_callTy call_tuple_of (by rfl) T.n_tuple (by decide +kernel) (pa_cons (pe_lc (own := [("_law_road", 2)]) (g := (gName 2)) (tt := tYes) rfl sc_law_counts.nd (pi_range1 (by rfl) T.n_range (pa_cons (pv 1) pa_nil)) (blkOk_by (own := [("_law_road", 2)]) (N := ["_law_hand_here", "_law_many", "_law_road"]) (sc := defScope s_law_counts) (by decide +kernel)) (fun _ _ _ _ _ => (pg_name (i := 2) sc_law_counts.nd rfl (Or.inl rfl))) (fun _ _ _ _ _ => pts_nil) (fun _ _ _ _ _ => (by exact (pe_op op_add pe_int (pe_call (ok__law_draw T) (hr.mono (by decide)) rfl T._law_draw.g T._law_draw.F.kp T._law_draw.b .nil pass0 (pa_cons (pv 0) (pa_cons pe_int pa_nil))))))) pa_nil))))), ?_⟩
    refine ⟨_, rfl, h, c, 3, rfl, hA, by decide, by decide, fun x H1 x0 x1 hA1 b1 => ⟨_, _, rfl, rfl, _, rfl, ite2 (fun _ => ?_) (fun _ => ?_)⟩⟩
    · refine ⟨by show 1 ≤ sizeLine; decide, fun p hp => ⟨_, rfl, p, m, _, rfl, rfl, SqT.of upd_same, by simp, by omega, m1, by simp, fun e => ?_, fun e q hq => ?_⟩⟩
      · subst e
        obtain ⟨n1, n2⟩ := hA1.ne hp
        refine k _ (.tup [.int 1]) _ (hA1.upd n1 n2) (b1.upd (b1.free n1 hp)) (.tup upd_same (by simp) (.cons (.int 1) .nil)) (by decide)
      · obtain ⟨n1, n2⟩ := hA1.ne hp
        have hA2 : HandAt (upd H1 p (.tup [V.int 1])) h c := hA1.upd n1 n2
        obtain ⟨n3, n4⟩ := hA2.ne hq
        have b2 : But h H (upd H1 p (.tup [V.int 1])) := b1.upd (b1.free n1 hp)
        refine k _ (.tup (List.replicate m.toNat (.int 1))) _ (hA2.upd n3 n4) (b2.upd (b2.free n3 hq)) (.tup upd_same ?_ (RpA.rep (.int 1) _)) ?_
        · simp; omega
        · rw [areBtw_tup, List.length_replicate, decide_eq_true (by omega), Bool.true_and, List.all_eq_true]
          intro d hd
          rw [List.eq_of_mem_replicate hd]
          decide
    · refine ⟨_, rfl, m, rfl, by omega, by omega, fun D hD => ?_⟩
      obtain ⟨n1, n2⟩ := hA1.ne hD
      have hD0 := b1.free n1 hD
      refine lc_range (lo := 0) (n := m.toNat) (fun i H' => ∃ ns : List Int, ns.length = i ∧ (∀ x ∈ ns, 1 ≤ x ∧ x ≤ 3) ∧ H' D = some (.lst (ns.map V.int)) ∧ HandAt H' h c ∧ But h H H')
        ⟨[], rfl, fun _ z => (nomatch z), upd_same, hA1.upd n1 n2, b1.upd hD0⟩ ?_ ?_
      · rintro i H2 hi ⟨ns, hl, hn, hd, hA2, b2⟩
        refine ⟨rfl, tyes ⟨_, rfl, h, c, 3, rfl, hA2, by decide, by decide, fun y H3 y0 y1 hA3 b3 => ⟨_, _, rfl, rfl, _, b3 _ _ hd n1, ?_, ns ++ [1 + y], ?_, ?_, ?_, hA3.upd n1 n2, (b2.trans b3).upd hD0⟩⟩⟩
        · rw [List.length_map]; exact line_lt (by omega)
        · rw [List.length_append, hl]; rfl
        · intro z hz
          rcases List.mem_append.mp hz with q | q
          · exact hn z q
          · rw [List.mem_singleton] at q; subst q; omega
        · rw [upd_same, List.map_append]; rfl
      · rintro H2 ⟨ns, hl, hn, hd, hA2, b2⟩
        refine ⟨_, _, rfl, .inl ⟨SqL.of hd, fun q hq => ?_⟩⟩
        obtain ⟨n3, n4⟩ := hA2.ne hq
        refine k _ (.tup (ns.map Hc.D.int)) _ (hA2.upd n3 n4) (b2.upd (b2.free n3 hq)) (.tup upd_same (by rw [List.length_map]; omega) (RpA.ints ns)) ?_
        rw [areBtw_tup, List.length_map, decide_eq_true (by omega), Bool.true_and, List.all_eq_true]
        intro d hd
        obtain ⟨x, hx, rfl⟩ := List.mem_map.mp hd
        exact btw_of (hn x hx).1 (hn x hx).2
/-- a drawn web -/
structure WebD (towns most : Int) (d : D) : Prop where
  ex : ∃ (n : Int) (ds : List D) (rm tm : D), d = .tup [.int n, .tup ds, rm, tm] ∧ 2 ≤ n ∧ n ≤ towns ∧ 1 ≤ ds.length ∧ (ds.length : Int) ≤ most ∧ ds.all (isBE n) = true ∧ areBtw ds.length 1 3 rm = true ∧ areBtw ds.length 1 3 tm = true
def spWebL : Sp := fun vs H Q _ => ∃ (h c : Addr) (towns most : Int), vs = [.ref h, .int towns, .int most] ∧ HandAt H h c ∧ 2 ≤ towns ∧ towns ≤ 1000 ∧ 1 ≤ most ∧ most ≤ 1000 ∧
  ∀ v d H', HandAt H' h c → But h H H' → Rp H' h v d → WebD towns most d → Q v H'
theorem be_of {n a b : Int} (a0 : 0 ≤ a) (a1 : a < n) (b0 : 0 ≤ b) (b1 : b < n) (ne : a ≠ b) : isBE n (.tup [.int a, .int b]) = true := by
  unfold isBE
  rw [areBtw_tup, List.all_cons, List.all_cons, List.all_nil, btw_of a0 (by omega), btw_of b0 (by omega)]
  show (decide (((2 : Nat) : Int) = 2) && (true && (true && true)) && !decide (a = b)) = true
  rw [decide_eq_false ne]; decide
theorem be_full {n : Int} {d : D} (e : isBE n d = true) : ∃ a b, d = .tup [.int a, .int b] ∧ 0 ≤ a ∧ a < n ∧ 0 ≤ b ∧ b < n ∧ a ≠ b := by
  have e1 := (Bool.and_eq_true_iff.mp e).1
  obtain ⟨a, b, rfl, e2⟩ := be_true e1
  rw [e] at e2
  have ne : a ≠ b := fun z => by rw [decide_eq_true z] at e2; cases e2
  rw [areBtw_tup, List.all_cons, List.all_cons, List.all_nil, Bool.and_true] at e1
  obtain ⟨_, e3⟩ := Bool.and_eq_true_iff.mp e1
  obtain ⟨h4, h5⟩ := Bool.and_eq_true_iff.mp e3
  obtain ⟨p1, p2⟩ := Bool.and_eq_true_iff.mp (show (decide (0 ≤ a) && decide (a ≤ n - 1)) = true from h4)
  obtain ⟨p3, p4⟩ := Bool.and_eq_true_iff.mp (show (decide (0 ≤ b) && decide (b ≤ n - 1)) = true from h5)
  have q1 := of_decide_eq_true p1
  have q2 := of_decide_eq_true p2
  have q3 := of_decide_eq_true p3
  have q4 := of_decide_eq_true p4
  exact ⟨a, b, rfl, q1, by omega, q3, by omega, ne⟩
theorem ring_ne {b x n : Int} (b0 : 0 ≤ b) (b1 : b < n) (x0 : 0 ≤ x) (x1 : x < n - 1) : b ≠ (b + 1 + x).fmod n := by
  rw [Int.fmod_eq_emod_of_nonneg _ (by omega)]
  by_cases h : b + 1 + x < n
  · rw [Int.emod_eq_of_lt (by omega) h]; omega
  · have e : (b + 1 + x) % n = b + 1 + x - n := by
      rw [← Int.sub_emod_right, Int.emod_eq_of_lt (by omega) (by omega)]
    rw [e]; omega
theorem ok__law_web (T : Tx K mg) : FnOk P w K mg base CX0 3 T._law_web.f T._law_web.fd ["_law_hand_here", "_law_towns", "_law_most"] spWebL := by
  refine T._law_web.F.ok sc_law_web (fun vs H Q E h => ?_) (fun cdv A outer s H vs Q E hr h => ?_)
  · obtain ⟨h, c, m, n, rfl, _⟩ := h
    rfl
  · obtain ⟨h, c, to, mo, rfl, hA, t0, t1, m0, m1, k⟩ := h
    refine ⟨_, (pss_cons (ps_set (i := 3) sc_law_web.nd rfl (Or.inl rfl) (pe_op op_add pe_int (pe_call (ok__law_draw T) (hr.mono (by decide)) rfl T._law_draw.g T._law_draw.F.kp T._law_draw.b .nil pass0 (pa_cons (pv 0) (pa_cons (pe_op op_sub (pv 1) pe_int) pa_nil)))))
      (pss_cons (ps_set (i := 4) sc_law_web.nd rfl (Or.inl rfl) (pe_op op_add pe_int (pe_call (ok__law_draw T) (hr.mono (by decide)) rfl T._law_draw.g T._law_draw.F.kp T._law_draw.b .nil pass0 (pa_cons (pv 0) (pa_cons (pv 2) pa_nil)))))
      (pss_cons (ps_set (i := 5) sc_law_web.nd rfl (Or.inl rfl) (pe_call (ok__law_draw T) (hr.mono (by decide)) rfl T._law_draw.g T._law_draw.F.kp T._law_draw.b .nil pass0 (pa_cons (pv 0) (pa_cons pe_int pa_nil))))
      (pss_cons (ps_set (i := 6) sc_law_web.nd rfl (Or.inl rfl) (pe_lst pa_nil))
      (pss_cons (ps_for PassesOwn.never rfl (pi_range1 (by rfl) T.n_range (pa_cons (pv 4) pa_nil)) (pg_name (i := 7) sc_law_web.nd rfl (Or.inl rfl))
      (pss_cons (ps_set (i := 8) sc_law_web.nd rfl (Or.inl rfl) (pe_call (ok__law_draw T) (hr.mono (by decide)) rfl T._law_draw.g T._law_draw.F.kp T._law_draw.b .nil pass0 (pa_cons (pv 0) (pa_cons (pv 3) pa_nil))))
      (C8.pss_cut (ps_if (PW.pt (pw_and (pt_cmpR op_eq (pv 5) pe_int (nomark _)) (pw_and (pt_cmpR op_gt (pv 7) pe_int (nomark _)) (pw_and1 (pt_cmpR op_gt (pe_call (ok__law_draw T) (hr.mono (by decide)) rfl T._law_draw.g T._law_draw.F.kp T._law_draw.b .nil pass0 (pa_cons (pv 0) (pa_cons pe_int pa_nil))) pe_int (nomark _))))))
      (pss_one (ps_set (i := 8) sc_law_web.nd rfl (Or.inl rfl) (pe_ix ix_tup (pe_ix ix_list (pv 6) (pe_un un_neg pe_int) (fun _ _ => rfl)) pe_int (fun _ _ => rfl))))
      pss_nil)
      (pss_one (ps_expr (pe_bm PySem.F.plainAttrs_list PySem.F.slot_list_append PySem.F.type_list_append mt_append (pv 6) (pa_cons (pe_tup (pa_cons (pv 8) (pa_cons (pe_op op_modN (pe_callTy call_int1 (by rfl) T.n_int (by decide +kernel) (pa_cons (pe_op op_add (pe_op op_add (pv 8) pe_int) (pe_call (ok__law_draw T) (hr.mono (by decide)) rfl T._law_draw.g T._law_draw.F.kp T._law_draw.b .nil pass0 (pa_cons (pv 0) (pa_cons (pe_op op_sub (pv 3) pe_int) pa_nil)))) pa_nil)) (pv 3)) pa_nil))) pa_nil)))))))
      (pss_one (ps_ret (pe_tup (pa_cons (pv 3) (pa_cons (pe_callTy call_tuple_of (by rfl) T.n_tuple (by decide +kernel) (pa_cons (pv 6) pa_nil)) (pa_cons (pe_call (ok__law_counts T) (hr.mono (by decide)) rfl T._law_counts.g T._law_counts.F.kp T._law_counts.b .nil pass0 (pa_cons (pv 0) (pa_cons (pv 4) pa_nil))) (pa_cons (pe_call (ok__law_counts T) (hr.mono (by decide)) rfl T._law_counts.g T._law_counts.F.kp T._law_counts.b .nil pass0 (pa_cons (pv 0) (pa_cons (pv 4) pa_nil))) pa_nil)))))))))))), ?_⟩
    refine ⟨_, rfl, _, rfl, _, _, rfl, rfl, h, c, to - 1, rfl, hA, by omega, by omega, fun x H1 x0 x1 hA1 b1 => ⟨_, _, rfl, rfl, ?_⟩⟩
    refine ⟨_, rfl, _, rfl, h, c, mo, rfl, hA1, by omega, by omega, fun y H2 y0 y1 hA2 b2 => ⟨_, _, rfl, rfl, ?_⟩⟩
    refine ⟨_, rfl, h, c, 2, rfl, hA2, by decide, by decide, fun z H3 z0 z1 hA3 b3 => ?_⟩
    refine ⟨by show 0 ≤ sizeLine; decide, fun p hp => ?_⟩
    obtain ⟨n1, n2⟩ := hA3.ne hp
    have bH3 := (b1.trans b2).trans b3
    have p0 := bH3.free n1 hp
    refine ⟨_, rfl, 1 + y, rfl, by omega, by omega, for_range (lo := 0) (n := (1 + y).toNat) (fun i σ' H' => ∃ (rv bv : Option V) (vs : List V) (ds : List D),
      σ' = [some (.ref h), some (.int to), some (.int mo), some (.int (2 + x)), some (.int (1 + y)), some (.int z), some (.ref p), rv, bv] ∧ HandAt H' h c ∧ But h H H' ∧
      H' p = some (.lst vs) ∧ RpA (del H' p) h vs ds ∧ ds.length = i ∧ ds.all (isBE (2 + x)) = true)
      ⟨none, none, [], [], rfl, hA3.upd n1 n2, bH3.upd p0, upd_same, .nil, rfl, rfl⟩ ?_ ?_⟩
    · rintro i σ' H4 hi ⟨rv, bv, vs, ds, rfl, hA4, b4, hp4, ra, hl, hall⟩
      refine ⟨_, rfl, _, rfl, h, c, 2 + x, rfl, hA4, by omega, by omega, fun b H5 c0 c1 hA5 b5 => ?_⟩
      have ra5 : RpA (del H5 p) h vs ds := ra.mono (by obtain ⟨zs, e⟩ := hA4.lst; exact ⟨zs, by rw [del_ne n1.symm]; exact e⟩) b5.del
      refine ⟨fun σ'' H' => ∃ (b' : Int), σ'' = [some (.ref h), some (.int to), some (.int mo), some (.int (2 + x)), some (.int (1 + y)), some (.int z), some (.ref p), some (.int (0 + i)), some (.int b')] ∧
        0 ≤ b' ∧ b' < 2 + x ∧ HandAt H' h c ∧ But h H H' ∧ H' p = some (.lst vs) ∧ RpA (del H' p) h vs ds, ?_, ?_⟩
      · have stay : ∀ H', HandAt H' h c → But h H5 H' → ∃ (b' : Int), ([some (.ref h), some (.int to), some (.int mo), some (.int (2 + x)), some (.int (1 + y)), some (.int z), some (.ref p), some (.int (0 + i)), some (.int b)] : St) = [some (.ref h), some (.int to), some (.int mo), some (.int (2 + x)), some (.int (1 + y)), some (.int z), some (.ref p), some (.int (0 + i)), some (.int b')] ∧
            0 ≤ b' ∧ b' < 2 + x ∧ HandAt H' h c ∧ But h H H' ∧ H' p = some (.lst vs) ∧ RpA (del H' p) h vs ds := fun H' hA' b' =>
          ⟨b, rfl, c0, c1, hA', (b4.trans b5).trans b', b' _ _ (b5 _ _ hp4 n1) n1, ra5.mono (by obtain ⟨zs, e⟩ := hA5.lst; exact ⟨zs, by rw [del_ne n1.symm]; exact e⟩) b'.del⟩
        refine ⟨_, rfl, rfl, _, rfl, ?_⟩
        rw [int_eqd]
        by_cases h0 : z = 1
        · rw [decide_eq_true h0]
          refine iteT ⟨_, rfl, _, _, rfl, rfl, _, rfl, ?_⟩
          by_cases h1 : (0 : Int) < 0 + (i : Int)
          · rw [decide_eq_true h1]
            refine iteT ⟨_, rfl, h, c, 4, rfl, hA5, by decide, by decide, fun u H6 u0 u1 hA6 b6 => ⟨_, _, rfl, rfl, _, rfl, ite2 (fun _ => ?_) (fun _ => stay H6 hA6 b6)⟩⟩
            obtain ⟨c', h3, c2, c3, c4, c5, c6, c7⟩ := stay H6 hA6 b6
            rcases List.eq_nil_or_concat ds with e | ⟨ds', d, e⟩
            · subst e; simp at hl; omega
            · rw [List.concat_eq_append] at e
              subst e
              obtain ⟨vs', v, rfl, rl⟩ := RpA.snoc_inv c7
              rw [List.all_append, Bool.and_eq_true, List.all_cons, List.all_nil, Bool.and_true] at hall
              obtain ⟨aa, bb, rfl, q1, q2, q3, q4, q5⟩ := be_full hall.2
              obtain ⟨qa, xs, rfl, ea, za, rA⟩ := tup_inv rl
              cases rA with
              | cons r1 rA =>
                cases rA with
                | cons r2 rA =>
                  cases rA
                  cases r1
                  cases r2
                  refine ⟨_, rfl, _, rfl, p, _, _, _, rfl, rfl, SqL.of c6, atI_last _ _, qa, _, _, _, rfl, rfl, SqT.of (del_sub _ _ ea), atI_nat (j := 1) rfl, ?_⟩
                  exact ⟨bb, rfl, q3, q4, c4, c5, c6, c7⟩
          · rw [decide_eq_false h1]
            exact iteF (iteF (stay H5 hA5 (But.refl h H5)))
        · rw [decide_eq_false h0]
          exact iteF (iteF (stay H5 hA5 (But.refl h H5)))
      · rintro σ'' H6 ⟨b', rfl, c0', c1', hA6, b6, hp6, ra6⟩
        refine ⟨_, rfl, .inl ⟨rfl, _, SqL.of hp6⟩, _, rfl, _, rfl, _, _, rfl, rfl, _, rfl, _, rfl, _, _, rfl, rfl, h, c, 2 + x - 1, rfl, hA6, by omega, by omega, fun u H7 u0 u1 hA7 b7 => ?_⟩
        refine ⟨_, _, rfl, rfl, .inl ⟨_, rfl, _, rfl, _, _, rfl, rfl, by omega, by show 2 ≤ sizeLine; decide, fun q hq => ?_⟩⟩
        obtain ⟨n3, n4⟩ := hA7.ne hq
        have hp7 := b7 _ _ hp6 n1
        have nqp : q ≠ p := (ne_of_none hp7 hq).symm
        have b8 := b6.trans b7
        have ra7 : RpA (del H7 p) h vs ds := ra6.mono (by obtain ⟨zs, e⟩ := hA6.lst; exact ⟨zs, by rw [del_ne n1.symm]; exact e⟩) b7.del
        have hvl := ra7.len
        refine ⟨p, vs, _, rfl, rfl, by rw [upd_ne nqp.symm]; exact hp7, line_lt (by omega), ?_⟩
        obtain ⟨f0, f1⟩ := mod_range (b' + 1 + u) (m := 2 + x) (by omega)
        refine ⟨_, _, _, ds ++ [.tup [.int b', .int ((b' + 1 + u).fmod (2 + x))]], rfl, (hA7.upd n3 n4).upd n1 n2, (b8.upd (b8.free n3 hq)).upd p0, upd_same, ?_, by rw [List.length_append, hl]; rfl, ?_⟩
        · rw [del_upd]
          exact (ra7.same (del_new hq)).app (.cons (.tup (by rw [del_ne nqp]; exact upd_same) (by show 2 ≤ 100000; decide) (.cons (.int _) (.cons (.int _) .nil))) .nil)
        · rw [List.all_append, hall, Bool.true_and, List.all_cons, List.all_nil, Bool.and_true]
          exact be_of c0' c1' f0 f1 (ring_ne c0' c1' u0 (by omega))
    · rintro σ' H4 ⟨rv, bv, vs, ds, rfl, hA4, b4, hp4, ra, hl, hall⟩
      have hvl := ra.len
      have ra4 := ra.same (del_sub (p := p))
      refine ⟨_, rfl, _, rfl, p, vs, rfl, .inl ⟨SqL.of hp4, fun q hq => ?_⟩⟩
      obtain ⟨n3, n4⟩ := hA4.ne hq
      have hA5 : HandAt (upd H4 q (.tup vs)) h c := hA4.upd n3 n4
      have b5 : But h H (upd H4 q (.tup vs)) := b4.upd (b4.free n3 hq)
      have r5 : Rp (upd H4 q (.tup vs)) h (.ref q) (.tup ds) := .tup upd_same (by omega) (ra4.same (same_upd hq))
      refine ⟨_, rfl, _, rfl, h, c, 1 + y, rfl, hA5, by omega, by omega, fun rmv rm H6 hA6 b6 r6 e6 => ?_⟩
      refine ⟨_, rfl, _, rfl, h, c, 1 + y, rfl, hA6, by omega, by omega, fun tmv tm H7 hA7 b7 r7 e7 => ?_⟩
      refine ⟨by show 4 ≤ sizeLine; decide, fun t ht => ?_⟩
      obtain ⟨n5, n6⟩ := hA7.ne ht
      have b8 := (b5.trans b6).trans b7
      have el : 1 + y = (ds.length : Int) := by omega
      refine k _ (.tup [.int (2 + x), .tup ds, rm, tm]) _ (hA7.upd n5 n6) (b8.upd (b8.free n5 ht)) (.tup upd_same (by show 4 ≤ 100000; decide) (.cons (.int _) (.cons ((r5.mono hA5.lst (b6.trans b7)).same (same_upd ht)) (.cons ((r6.mono hA6.lst b7).same (same_upd ht)) (.cons (r7.same (same_upd ht)) .nil)))))
        ⟨2 + x, ds, rm, tm, rfl, by omega, by omega, by omega, by omega, hall, by rw [← el]; exact e6, by rw [← el]; exact e7⟩
end
end Hc


set_option Elab.async false
set_option linter.all false
set_option maxRecDepth 100000
set_option maxHeartbeats 4000000
set_option autoImplicit false
namespace Hc
open PySem L2
section
variable {P : Program} {w : World} {K : PySem.W.Frag} {mg : Str → Option Value} {base : Heap}
def spHand (K : PySem.W.Frag) : Sp := fun vs H Q _ => ∃ (a : Addr) (ns : List Int), vs = [.ref a] ∧ SqL K H a (ns.map V.int) ∧ ns.length ≤ 63 ∧
  ∀ h c H', Same H H' → HandAt H' h c → Q (.ref h) H'
theorem cutV_ints (ns : List Int) (lo hi : Option Int) : ∃ ms : List Int, cutV (ns.map V.int) lo hi = ms.map V.int ∧ ms.length ≤ ns.length := by
  refine ⟨(ns.drop (HT.sIx ns.length 0 lo)).take (HT.sIx ns.length ns.length hi - HT.sIx ns.length 0 lo), ?_, ?_⟩
  · unfold cutV
    rw [List.length_map, List.map_take, List.map_drop]
  · rw [List.length_take, List.length_drop]; omega
theorem ok__law_hand (T : Tx K mg) : FnOk P w K mg base CX0 1 T._law_hand.f T._law_hand.fd ["_law_script"] (spHand K) := by
  refine T._law_hand.F.ok sc_law_hand (fun vs H Q E h => ?_) (fun cdv A outer s H vs Q E hr h => ?_)
  · obtain ⟨a, ns, rfl, _⟩ := h
    rfl
  · obtain ⟨a, ns, rfl, hS, hl, k⟩ := h
    refine ⟨_, (pss_cons (ps_setLc (i := 1) (own := [("_law_cell", 2)]) (g := (gName 2)) (tt := tYes) rfl sc_law_hand.nd rfl rfl (sw_true rfl rfl rfl (by decide +kernel)) (pi_list (pe_slice sl_list (pv 0) po_none (po_some pe_int))) (blkOk_by (own := [("_law_cell", 2)]) (N := ["_law_script", "_law_cells", "_law_cell"]) (sc := defScope s_law_hand) (by decide +kernel)) (fun _ _ _ _ _ => (pg_name (i := 2) sc_law_hand.nd rfl (Or.inl rfl))) (fun _ _ _ _ _ => pts_nil) (fun _ _ _ _ _ => (by exact (pe_callB call_abs (by rfl) T.n_abs (by decide +kernel) (pa_cons (pe_callTy call_int1 (by rfl) T.n_int (by decide +kernel) (pa_cons (pv 2) pa_nil)) pa_nil)))))
      (pss_one (ps_ret (pe_lst (pa_cons (pv 1) (pa_cons pe_int (pa_cons pe_int (pa_cons (pe_op op_add pe_int (pe_callB call_len_seq (by rfl) T.n_len (by decide +kernel) (pa_cons (pv 1) pa_nil))) (pa_cons pe_int pa_nil))))))))), ?_⟩
    obtain ⟨ms, em, lm⟩ := cutV_ints ns none (some 63)
    refine ⟨_, rfl, _, rfl, a, _, rfl, hS, fun p hp => ?_⟩
    rw [em]
    refine ⟨p, rfl, ⟨_, SqL.of upd_same⟩, fun D hD => ?_⟩
    have s1 : Same H (upd H p (.lst (ms.map V.int))) := same_upd hp
    have npD : p ≠ D := ne_of_none upd_same hD
    refine lc_list (K := K) (a := p) (xs := ms.map V.int) (fun i H' => ∃ ys : List Int, H' D = some (.lst (ys.map V.int)) ∧ ys.length = i ∧ H' p = some (.lst (ms.map V.int)) ∧ ∀ b o, H b = some o → H' b = some o)
      ⟨[], upd_same, rfl, by rw [upd_ne npD]; exact upd_same, fun b o q => by rw [upd_ne (ne_of_none (s1 _ _ q) hD)]; exact s1 _ _ q⟩ (fun i H' _ ⟨_, _, _, q, _⟩ => SqL.of q) ?_ ?_
    · rintro i x H' hx ⟨ys, hd, hy, hp', sm⟩
      have hi : i < (ms.map V.int).length := (List.getElem?_eq_some_iff.mp hx).1
      rw [List.length_map] at hi
      obtain ⟨z, rfl⟩ : ∃ z, x = V.int z := by
        rw [List.getElem?_map] at hx
        cases e : ms[i]? with
        | none => rw [e] at hx; cases hx
        | some z => rw [e] at hx; exact ⟨z, (Option.some.inj hx).symm⟩
      refine ⟨rfl, tyes ⟨_, rfl, .inl ⟨_, rfl, _, rfl, _, hd, ?_, ys ++ [if z < 0 then -z else z], ?_, ?_, ?_, ?_⟩⟩⟩
      · rw [List.length_map]; exact line_lt (by omega)
      · rw [upd_same, List.map_append]; rfl
      · rw [List.length_append, hy]; rfl
      · rw [upd_ne npD]; exact hp'
      · intro b o q
        have := s1 _ _ q
        rw [upd_ne (ne_of_none this hD)]
        exact sm _ _ q
    · rintro H' ⟨ys, hd, hy, hp', sm⟩
      refine ⟨_, rfl, _, rfl, _, _, rfl, .inl (SqL.of hd), _, _, rfl, rfl, by show 5 ≤ sizeLine; decide, fun hh nh => ?_⟩
      have nD : D ≠ hh := ne_of_none hd nh
      exact k hh D _ (fun b o q => by rw [upd_ne (ne_of_none (sm _ _ q) nh)]; exact sm _ _ q) ⟨ys, 0, 0, _, 0, upd_same, by rw [upd_ne nD]; exact hd, by decide, nD⟩
end
end Hc


set_option Elab.async false
set_option linter.all false
set_option maxRecDepth 100000
set_option maxHeartbeats 4000000
set_option autoImplicit false
namespace Hc
open PySem L2
theorem new_facts {H H2 : Hp} {h c p : Addr} {o : HO} (hA : HandAt H h c) (hp : H p = none) (e : upd H p o = H2) : Same H H2 ∧ H2 p = some o ∧ p ≠ h ∧ p ≠ c ∧ HandAt H2 h c := by
  subst e
  obtain ⟨n1, n2⟩ := hA.ne hp
  exact ⟨same_upd hp, upd_same, n1, n2, hA.upd n1 n2⟩
theorem RpA.of {H : Hp} {h : Addr} {xs : List V} {ds : List D} (r : RpA H h xs ds) {n : Int} (n0 : 0 ≤ n) (n1 : n < (xs.length : Int)) : ∃ v d, atI xs n = some v ∧ d ∈ ds ∧ Rp H h v d := by
  obtain ⟨j, rfl⟩ := Int.eq_ofNat_of_zero_le n0
  have hj : j < xs.length := by omega
  obtain ⟨d, h1, h2⟩ := r.get (List.getElem?_eq_getElem hj)
  exact ⟨_, d, atI_nat (List.getElem?_eq_getElem hj), List.mem_of_getElem? h1, h2⟩
theorem RpA.cut {H : Hp} {h : Addr} {xs : List V} {ds : List D} (r : RpA H h xs ds) (lo hi : Option Int) : ∃ es : List D, RpA H h (cutV xs lo hi) es ∧ es.length ≤ ds.length :=
  ⟨_, RpA.take _ (RpA.drop _ r), by rw [List.length_take, List.length_drop]; omega⟩
theorem slA_rp {K : PySem.W.Frag} {H : Hp} {h c : Addr} {x : V} {lo hi : Option Int} {Q : VK} {ds : List D} (hA : HandAt H h c) (r : Rp H h x (.tup ds))
    (k : ∀ v ds' H', Same H H' → HandAt H' h c → Rp H' h v (.tup ds') → ds'.length ≤ ds.length → Q v H') : rSlA K x lo hi H Q := by
  obtain ⟨a, xs, rfl, e, z, ra⟩ := tup_inv r
  refine ⟨a, xs, rfl, SqT.of e, fun _ => k _ ds _ (Same.refl _) hA r (Nat.le_refl _), fun _ p hp => ?_⟩
  obtain ⟨s2, e2, n2, n3, hA2⟩ := new_facts (o := .tup (cutV xs lo hi)) hA hp rfl
  obtain ⟨es, re, ze⟩ := ra.cut lo hi
  exact k _ es _ s2 hA2 (.tup e2 (Nat.le_trans (cutV_length _ _ _) z) (re.same s2)) ze
theorem catA_rp {K : PySem.W.Frag} {H : Hp} {h c : Addr} {x y : V} {Q : VK} {ds es : List D} (hA : HandAt H h c) (r1 : Rp H h x (.tup ds)) (r2 : Rp H h y (.tup es)) (z : ds.length + es.length ≤ 50000)
    (k : ∀ v H', Same H H' → HandAt H' h c → Rp H' h v (.tup (ds ++ es)) → Q v H') : rCatA K x y H Q := by
  obtain ⟨a, xs, rfl, e1, z1, ra⟩ := tup_inv r1
  obtain ⟨b, ys, rfl, e2, z2, rb⟩ := tup_inv r2
  have l1 := ra.len
  have l2 := rb.len
  refine ⟨a, b, xs, ys, rfl, rfl, SqT.of e1, SqT.of e2, line_le (by omega), fun ex => ?_, fun _ ey => ?_, fun _ _ p hp => ?_⟩
  · subst ex
    cases ra
    exact k _ _ (Same.refl _) hA r2
  · subst ey
    cases rb
    refine k _ _ (Same.refl _) hA ?_
    rw [List.append_nil]
    exact r1
  · obtain ⟨s3, e3, n2, n3, hA3⟩ := new_facts (o := .tup (xs ++ ys)) hA hp rfl
    exact k _ _ s3 hA3 (.tup e3 (by rw [List.length_append]; omega) ((ra.app rb).same s3))
theorem repA_rp {K : PySem.W.Frag} {H : Hp} {h c : Addr} {x : V} {n : Int} {Q : VK} {ds : List D} (hA : HandAt H h c) (r : Rp H h x (.tup ds)) (n0 : 1 ≤ n) (n1 : n ≤ 100) (d0 : ds ≠ []) (d1 : ds.length ≤ 1000)
    (k : ∀ v es H', Same H H' → HandAt H' h c → Rp H' h v (.tup es) → Q v H') : rRepA K x (.int n) H Q := by
  obtain ⟨a, xs, rfl, e1, z1, ra⟩ := tup_inv r
  have l1 := ra.len
  have rep : ∀ m : Nat, ∃ es, RpA H h (List.replicate m xs).flatten es := fun m => by
    induction m with
    | zero => exact ⟨_, .nil⟩
    | succ m ih =>
      obtain ⟨es, ih⟩ := ih
      rw [List.replicate_succ, List.flatten_cons]
      exact ⟨_, ra.app ih⟩
  refine ⟨a, n, xs, rfl, rfl, SqT.of e1, fun z => d0 (List.eq_nil_of_length_eq_zero (by rw [← l1, z]; rfl)), n0, by omega, by omega, fun _ => k _ _ _ (Same.refl _) hA r, fun _ p hp => ?_⟩
  obtain ⟨s3, e3, n2, n3, hA3⟩ := new_facts (o := .tup (List.replicate n.toNat xs).flatten) hA hp rfl
  obtain ⟨es, re⟩ := rep n.toNat
  refine k _ es _ s3 hA3 (.tup e3 ?_ (re.same s3))
  rw [PyProof.Rows.lm_len_rep_flat]
  have a1 : n.toNat * xs.length ≤ 100 * 1000 := Nat.mul_le_mul (by omega) (by omega)
  omega
structure BW (h : Addr) (H H' : Hp) : Prop where
  b : But h H H'
/-- no longer than what a sort of the law's takes -/
def short : D → Prop | .tup ds => ds.length ≤ 60 | _ => True
/-- some short thing -/
def RpX (H : Hp) (h : Addr) (v : V) : Prop := ∃ d, Rp H h v d ∧ short d
def RpXA (H : Hp) (h : Addr) (vs : List V) : Prop := ∃ ds, RpA H h vs ds ∧ ∀ d ∈ ds, short d
section
variable {H H' : Hp} {h : Addr}
theorem RpX.non : RpX H h .non := ⟨_, .non, trivial⟩
theorem RpX.bl (b : Bool) : RpX H h (.bl b) := ⟨_, .bl b, trivial⟩
theorem RpX.int (i : Int) : RpX H h (.int i) := ⟨_, .int i, trivial⟩
theorem RpX.str (s : Str) : RpX H h (.str s) := ⟨_, .str s, trivial⟩
theorem RpX.tup {a : Addr} {xs : List V} (e : H a = some (.tup xs)) (z : xs.length ≤ 60) (r : RpXA H h xs) : RpX H h (.ref a) := by
  obtain ⟨ds, r, _⟩ := r
  refine ⟨_, .tup e (by omega) r, ?_⟩
  show ds.length ≤ 60
  rw [← r.len]; exact z
theorem RpX.lst {a : Addr} {xs : List V} (e : H a = some (.lst xs)) (n : a ≠ h) : RpX H h (.ref a) := ⟨_, .lst e n, trivial⟩
theorem RpX.dct {a : Addr} {kvs : List (Key × V)} (e : H a = some (.dK kvs)) : RpX H h (.ref a) := ⟨_, .dct e, trivial⟩
theorem RpX.same {v : V} (s : Same H H') (r : RpX H h v) : RpX H' h v := by
  obtain ⟨d, r, q⟩ := r
  exact ⟨d, r.same s, q⟩
theorem RpX.monoB {c : Addr} {v : V} (s : But h H H') (l : HandAt H h c) (r : RpX H h v) : RpX H' h v := by
  obtain ⟨d, r, q⟩ := r
  exact ⟨d, r.mono l.lst s, q⟩
theorem Rp.monoB {c : Addr} {v : V} {d : D} (s : But h H H') (l : HandAt H h c) (r : Rp H h v d) : Rp H' h v d := r.mono l.lst s
theorem RpXA.nil : RpXA H h [] := ⟨_, .nil, fun _ z => nomatch z⟩
theorem RpXA.cons {v : V} {vs : List V} (r : RpX H h v) (q : RpXA H h vs) : RpXA H h (v :: vs) := by
  obtain ⟨d, r, s⟩ := r
  obtain ⟨ds, q, t⟩ := q
  exact ⟨_, .cons r q, fun e he => by
    rcases List.mem_cons.mp he with rfl | he
    · exact s
    · exact t e he⟩
theorem RpXA.app {vs ws : List V} (r : RpXA H h vs) (q : RpXA H h ws) : RpXA H h (vs ++ ws) := by
  obtain ⟨ds, r, s⟩ := r
  obtain ⟨es, q, t⟩ := q
  exact ⟨_, r.app q, fun e he => by
    rcases List.mem_append.mp he with he | he
    · exact s e he
    · exact t e he⟩
theorem RpXA.same {vs : List V} (s : Same H H') (r : RpXA H h vs) : RpXA H' h vs := by
  obtain ⟨d, r, q⟩ := r
  exact ⟨d, r.same s, q⟩
theorem RpXA.monoB {c : Addr} {vs : List V} (s : But h H H') (l : HandAt H h c) (r : RpXA H h vs) : RpXA H' h vs := by
  obtain ⟨d, r, q⟩ := r
  exact ⟨d, r.mono l.lst s, q⟩
theorem RpXA.at {xs : List V} (r : RpXA H h xs) {i : Nat} {x : V} (e : xs[i]? = some x) : RpX H h x := by
  obtain ⟨ds, r, t⟩ := r
  obtain ⟨d, h1, h2⟩ := r.get e
  exact ⟨d, h2, t d (List.mem_of_getElem? h1)⟩
theorem RpXA.get {xs : List V} (r : RpXA H h xs) {n : Int} (n0 : 0 ≤ n) (n1 : n < (xs.length : Int)) : ∃ v, atI xs n = some v ∧ RpX H h v := by
  obtain ⟨ds, r, t⟩ := r
  obtain ⟨v, d, h1, h3, h2⟩ := r.of n0 n1
  exact ⟨v, h1, d, h2, t d h3⟩
end
end Hc


set_option Elab.async false
set_option linter.all false
set_option maxRecDepth 100000
set_option maxHeartbeats 1000000
set_option autoImplicit false
namespace Hc
open PySem L2
def bg : D → Int | .tup (.int a :: _) => a | _ => 0
def en : D → Int | .tup (_ :: .int b :: _) => b | _ => 0
def dAt (ds : List D) (i : Int) : D := ds.getD i.toNat .non
/-- neighbours -/
def adj (R : Int → Int → Bool) (ns : List Int) : Bool := (List.range (ns.length - 1)).all fun j => R (ns.getD j 0) (ns.getD (j + 1) 0)
def nums : D → List Int | .tup ds => ds.map num | _ => []
def isRoad (rds : List D) (d : D) : Bool := isBtw 0 ((rds.length : Int) - 1) d
def isWay (rds : List D) : D → Bool
  | .tup ds => decide (1 ≤ ds.length) && decide (ds.length ≤ 8) && ds.all (isRoad rds) && adj (fun a b => decide (en (dAt rds a) = bg (dAt rds b))) (ds.map num)
  | _ => false
def isLot (rds : List D) : D → Bool
  | .tup ds => ds.all (isRoad rds) && adj (fun a b => decide (a < b)) (ds.map num)
  | _ => false
def nextL (rds : List D) (r : Int) : List Nat := (List.range rds.length).filter fun j => decide (bg (rds.getD j .non) = en (dAt rds r))
/-- a web's object at p -/
structure WebO (C : Addr) (H : Hp) (h p : Addr) (n : Int) (rds : List D) : Prop where
  ex : ∃ (dx : Addr) (v1 v2 v3 v4 : V), H p = some (.ins C dx (webF v1 v2 v3 v4)) ∧ Rp H h v2 (.tup rds)
  all : rds.all (isBE n) = true
  l1 : 1 ≤ rds.length
  l2 : rds.length ≤ 24
theorem WebO.same {C : Addr} {H H' : Hp} {h p : Addr} {n : Int} {rds : List D} (w : WebO C H h p n rds) (s : Same H H') : WebO C H' h p n rds := by
  obtain ⟨⟨dx, v1, v2, v3, v4, e, r⟩, a, b, c⟩ := w
  exact ⟨⟨dx, v1, v2, v3, v4, s _ _ e, r.same s⟩, a, b, c⟩
theorem WebO.but {C : Addr} {H H' : Hp} {h c p : Addr} {n : Int} {rds : List D} (w : WebO C H h p n rds) (k : But h H H') (hA : HandAt H h c) : WebO C H' h p n rds := by
  obtain ⟨⟨dx, v1, v2, v3, v4, e, r⟩, a, b, c⟩ := w
  refine ⟨⟨dx, v1, v2, v3, v4, k _ _ e ?_, r.monoB k hA⟩, a, b, c⟩
  obtain ⟨zs, q⟩ := hA.lst
  exact ne_of e q (by intro z; cases z)
theorem webN {a b : Str} (h : ¬ a = b) : ¬ a = b := h
theorem wF_r (v1 v2 v3 v4 : V) : (webF v1 v2 v3 v4).lookup ("roads" : Str) = some v2 := by
  have h1 : ¬ (("roads" : Str) = "rooms") := by decide +kernel
  have h2 : ¬ (("roads" : Str) = "times") := by decide +kernel
  unfold webF
  rw [lookup_putF, if_neg h2, lookup_putF, if_neg h1, lookup_putF, if_pos rfl]
/-- the road i of a web's roads -/
theorem RpA.road {H : Hp} {h : Addr} {xs : List V} {rds : List D} {n : Int} (r : RpA H h xs rds) (hall : rds.all (isBE n) = true) {j : Nat} (hj : j < rds.length) :
    ∃ q a b, xs[j]? = some (.ref q) ∧ H q = some (.tup [.int a, .int b]) ∧ bg (rds.getD j .non) = a ∧ en (rds.getD j .non) = b := by
  have hx : j < xs.length := by rw [r.len]; exact hj
  obtain ⟨d, h1, h2⟩ := r.get (List.getElem?_eq_getElem hx)
  rw [List.all_eq_true] at hall
  obtain ⟨a, b, rfl, _⟩ := be_full (hall d (List.mem_of_getElem? h1))
  obtain ⟨q, ys, e1, e2, _, ra⟩ := tup_inv h2
  have eg : rds.getD j .non = .tup [.int a, .int b] := by rw [List.getD_eq_getElem?_getD, h1]; rfl
  cases ra with
  | cons r1 ra =>
    cases ra with
    | cons r2 ra =>
      cases ra
      cases r1
      cases r2
      exact ⟨q, a, b, by rw [List.getElem?_eq_getElem hx, e1], e2, by rw [eg]; rfl, by rw [eg]; rfl⟩
theorem road_in {rds : List D} {d : D} (e : isRoad rds d = true) : ∃ j : Nat, d = .int j ∧ j < rds.length := by
  cases d with
  | int i =>
    have e1 : (decide (0 ≤ i) && decide (i ≤ (rds.length : Int) - 1)) = true := e
    rw [Bool.and_eq_true] at e1
    have h1 := of_decide_eq_true e1.1
    have h2 := of_decide_eq_true e1.2
    exact ⟨i.toNat, by rw [Int.toNat_of_nonneg h1], by omega⟩
  | _ => exact Bool.noConfusion e
/-- a tuple of numbers of roads -/
theorem roads_in {H : Hp} {h : Addr} {rds : List D} : ∀ {xs : List V} {ds : List D}, RpA H h xs ds → ds.all (isRoad rds) = true → ∃ ns : List Nat, ds = ns.map (fun j => .int (j : Nat)) ∧ xs = ns.map (fun j => V.int (j : Nat)) ∧ ∀ j ∈ ns, j < rds.length
  | _, _, .nil, _ => ⟨[], rfl, rfl, fun _ z => nomatch z⟩
  | _, _, .cons r q, e => by
    rw [List.all_cons, Bool.and_eq_true] at e
    obtain ⟨j, rfl, hj⟩ := road_in e.1
    obtain ⟨ns, rfl, rfl, hn⟩ := roads_in q e.2
    cases r
    exact ⟨j :: ns, rfl, rfl, fun k hk => by
      rcases List.mem_cons.mp hk with rfl | hk
      · exact hj
      · exact hn k hk⟩
theorem sl1 {K : PySem.W.Frag} {H : Hp} {a : Addr} {xs : List V} {Q : VK} (e : H a = some (.tup xs)) (k : ∀ b H', Same H H' → H' b = some (.tup (xs.drop 1)) → Q (.ref b) H') : rSlA K (.ref a) (some 1) none H Q := by
  have s1 : HT.sIx xs.length 0 (some 1) = min 1 xs.length := by
    show (if (1 : Int) < 0 then ((1 : Int) + (xs.length : Int)).toNat else min (1 : Int).toNat xs.length) = _
    rw [if_neg (by decide)]; rfl
  have s2 : HT.sIx xs.length xs.length none = xs.length := rfl
  have cut : cutV xs (some 1) none = xs.drop 1 := by
    unfold cutV
    rw [s1, s2]
    by_cases h : xs.length = 0
    · have : xs = [] := List.eq_nil_of_length_eq_zero h
      subst this; rfl
    · have m : min 1 xs.length = 1 := by omega
      rw [m]
      exact List.take_of_length_le (by rw [List.length_drop]; exact Nat.le_refl _)
  refine ⟨a, xs, rfl, SqT.of e, fun hw => ?_, fun _ p hp => ?_⟩
  · have h0 : xs.length = 0 := by
      rw [s1] at hw; omega
    have : xs = [] := List.eq_nil_of_length_eq_zero h0
    subst this
    exact k a H (Same.refl H) e
  · exact k p _ (same_upd hp) (by rw [upd_same, cut])
/-- [.. for i, x in enumerate(t) ..] -/
theorem lc_enumT {K : PySem.W.Frag} {a : Addr} {xs : List V} {g : TG} {tt : TT} {te : TE} {vs : List Nat} {σ : St} {H1 : Hp} {D : Addr} {Qd : Hp → Prop} (Pv : Nat → Hp → Prop) (h0 : Pv 0 (upd H1 D (.lst [])))
    (hl : ∀ i H, Pv i H → SqT K H a xs)
    (hs : ∀ (i : Nat) (x : V) (T : Addr) (H : Hp), xs[i]? = some x → H T = none → Pv i H → g (.ref T) (wipe σ vs) (upd H T (.tup [.int (i : Nat), x])) fun σ2 H2 => wipe σ2 vs = wipe σ vs ∧ tt σ2 H2 fun b H3 =>
      if b = true then te σ2 H3 fun y H4 => ∃ acc, H4 D = some (.lst acc) ∧ acc.length < sizeLine ∧ Pv (i + 1) (upd H4 D (.lst (acc ++ [y]))) else Pv (i + 1) H3) (hd : ∀ H, Pv xs.length H → Qd H) :
    ∃ W : Nat → Nat → Hp → Prop, (∃ m, W 0 m (upd H1 D (.lst []))) ∧ ∀ i m H, W i m H →
      ((IteT K a).stop i H ∧ Qd H) ∨ ((IteT K a).go i H ∧ ∃ Nx : Hp → Prop, (∀ H', Nx H' → ∃ m', m' < m ∧ W (i + 1) m' H') ∧ ∀ x H', (IteT K a).yld i H x H' → g x (wipe σ vs) H' fun σ2 H2 => wipe σ2 vs = wipe σ vs ∧ tt σ2 H2 fun b H3 =>
        if b = true then te σ2 H3 fun y H4 => ∃ acc, H4 D = some (.lst acc) ∧ acc.length < sizeLine ∧ Nx (upd H4 D (.lst (acc ++ [y]))) else Nx H3) := by
  refine ⟨fun i m H => m = xs.length - i ∧ i ≤ xs.length ∧ Pv i H, ⟨_, rfl, Nat.zero_le _, h0⟩, ?_⟩
  rintro i m H ⟨rfl, hi, p⟩
  have q := hl i H p
  by_cases hlt : i < xs.length
  · refine .inr ⟨⟨xs, _, q, List.getElem?_eq_getElem hlt⟩, Pv (i + 1), fun H' p' => ⟨xs.length - (i + 1), by omega, rfl, hlt, p'⟩, fun v H' y => ?_⟩
    obtain ⟨T, x', rfl, hT, rfl, f1⟩ := y
    exact hs i x' T H (f1 xs q) hT p
  · have e : i = xs.length := by omega
    subst e
    exact .inl ⟨⟨xs, q, Nat.le_refl _⟩, hd H p⟩
section
variable {P : Program} {w : World} {K : PySem.W.Frag} {mg : Str → Option Value} {base : Heap}
def spIsRoad (C : Addr) : Sp := fun vs H Q _ => ∃ (h p : Addr) (n : Int) (rds : List D) (v : V) (d : D), vs = [.ref p, v] ∧ WebO C H h p n rds ∧ Rp H h v d ∧ Q (.bl (isRoad rds d)) H
theorem ok_is_road (T : Tx K mg) : FnOk P w K mg base CX0 3 T.is_road.f T.is_road.fd ["web", "thing"] (spIsRoad T.Web.C) := by
  refine T.is_road.F.ok sc_is_road (fun vs H Q E h => ?_) (fun cdv A outer s H vs Q E hr h => ?_)
  · obtain ⟨_, p, n, rds, v, d, rfl, _⟩ := h
    rfl
  · obtain ⟨h, p, n, rds, v, d, rfl, W, r, k⟩ := h
    obtain ⟨dx, v1, v2, v3, v4, hp, r2⟩ := W.ex
    obtain ⟨pa, xs, rfl, ea, za, ra⟩ := tup_inv r2
    refine ⟨_, (pss_one (ps_ret (pe_call (ok_is_between T) (hr.mono (by decide)) rfl T.is_between.g T.is_between.F.kp T.is_between.b .nil pass0 (pa_cons pe_int (pa_cons (pe_op op_sub (pe_callB call_len_seq (by rfl) T.n_len (by decide +kernel) (pa_cons (pe_fld (pv 0) rfl) pa_nil)) pe_int) (pa_cons (pv 1) pa_nil)))))), ?_⟩
    refine ⟨_, rfl, p, T.Web.C, dx, _, _, rfl, hp, T.Web.cl, T.Web.no _ (by simp), wF_r _ _ _ _, pa, xs, rfl, .inr (SqT.of ea), _, _, rfl, rfl, _, rfl, h, 0, _, v, d, rfl, r, ?_⟩
    rw [ra.len]
    exact k
theorem isWay_tup (rds : List D) (ds : List D) : isWay rds (.tup ds) = (decide (1 ≤ ds.length) && decide (ds.length ≤ 8) && ds.all (isRoad rds) && adj (fun a b => decide (en (dAt rds a) = bg (dAt rds b))) (ds.map num)) := rfl
theorem isLot_tup (rds : List D) (ds : List D) : isLot rds (.tup ds) = (ds.all (isRoad rds) && adj (fun a b => decide (a < b)) (ds.map num)) := rfl
theorem map_range_all (n : Nat) (f : Nat → Bool) : ((List.range n).map f).all id = (List.range n).all f := by rw [List.all_map]; rfl
theorem nums_map (ns : List Nat) : (ns.map fun j => D.int (j : Nat)).map num = ns.map fun (j : Nat) => (j : Int) := by rw [List.map_map]; rfl
theorem getD_map (ns : List Nat) {i : Nat} (h : i < ns.length) : (ns.map fun (j : Nat) => (j : Int)).getD i 0 = (ns[i] : Nat) := by
  rw [List.getD_eq_getElem?_getD, List.getElem?_map, List.getElem?_eq_getElem h]; rfl
def spJudge (C : Addr) (g : List D → D → Bool) : Sp := fun vs H Q _ => ∃ (h p : Addr) (n : Int) (rds : List D) (v : V) (d : D), vs = [.ref p, v] ∧ WebO C H h p n rds ∧ Rp H h v d ∧ ∀ H', Same H H' → Q (.bl (g rds d)) H'
/-- [r(a, b) for a, b in zip(t, t[1:])] over a tuple of numbers -/
theorem lc_next {K : PySem.W.Frag} {H H0 : Hp} {a b A : Addr} {ns : List Nat} {i1 i2 : Nat} {te : TE} {vs : List Nat} {σ : St} {Qd : Hp → Prop} (R : Int → Int → Bool) (s0 : Same H0 H) (hA : H A = none)
    (e1 : H a = some (.tup (ns.map fun j => V.int (j : Nat)))) (e2 : H b = some (.tup ((ns.map fun j => V.int (j : Nat)).drop 1))) (hz : ns.length ≤ 100000)
    (hw : ∀ x y, wipe (((wipe σ vs).set i1 (some x)).set i2 (some y)) vs = wipe σ vs)
    (hs : ∀ (i : Nat) (hi : i + 1 < ns.length) H' (Q : VK), Same H H' → (∀ H4, Same H' H4 → Q (.bl (R (ns[i]'(by omega) : Nat) (ns[i + 1] : Nat))) H4) → te (((wipe σ vs).set i1 (some (.int (ns[i]'(by omega) : Nat)))).set i2 (some (.int (ns[i + 1] : Nat)))) H' Q)
    (hd : ∀ H', Same H0 H' → SqL K H' A (((List.range (ns.length - 1)).map fun j => R ((ns.map fun (j : Nat) => (j : Int)).getD j 0) ((ns.map fun (j : Nat) => (j : Int)).getD (j + 1) 0)).map V.bl) → Qd H') :
    ∃ W : Nat → Nat → Hp → Prop, (∃ m, W 0 m (upd H A (.lst []))) ∧ ∀ i m H, W i m H →
      ((RZ.ItzT K a b).stop i H ∧ Qd H) ∨ ((RZ.ItzT K a b).go i H ∧ ∃ Nx : Hp → Prop, (∀ H', Nx H' → ∃ m', m' < m ∧ W (i + 1) m' H') ∧ ∀ x H', (RZ.ItzT K a b).yld i H x H' → (gTup K 2 (gCons (gName i1) (gCons (gName i2) gNil))) x (wipe σ vs) H' fun σ2 H2 => wipe σ2 vs = wipe σ vs ∧ tYes σ2 H2 fun b H3 =>
        if b = true then te σ2 H3 fun y H4 => ∃ acc, H4 A = some (.lst acc) ∧ acc.length < sizeLine ∧ Nx (upd H4 A (.lst (acc ++ [y]))) else Nx H3) := by
  refine lc_zipT (xs := ns.map fun j => V.int (j : Nat)) (ys := (ns.map fun j => V.int (j : Nat)).drop 1) (fun i H' => Same H (fun b => if b = A then none else H' b) ∧ H' A = some (.lst (((List.range i).map fun j => R ((ns.map fun (j : Nat) => (j : Int)).getD j 0) ((ns.map fun (j : Nat) => (j : Int)).getD (j + 1) 0)).map V.bl)))
    ⟨fun b o q => ?_, upd_same⟩ (fun i H' ⟨s, _⟩ => ?_) ?_ ?_
  · have n := ne_of_none q hA
    show (if b = A then none else upd H A _ b) = _
    rw [if_neg n, upd_ne n]; exact q
  · have q1 := s _ _ e1
    have q2 := s _ _ e2
    simp only [if_neg (ne_of_none e1 hA)] at q1
    simp only [if_neg (ne_of_none e2 hA)] at q2
    exact ⟨SqT.of q1, SqT.of q2⟩
  · intro i x y TT H' hx hy ⟨s, hacc⟩ hT
    have sm : Same H H' := fun b o q => by
      have r := s b o q
      simp only [if_neg (ne_of_none q hA)] at r
      exact r
    have hi : i + 1 < ns.length := by
      have := (List.getElem?_eq_some_iff.mp hy).1
      rw [List.length_drop, List.length_map] at this
      omega
    have ex : x = .int (ns[i]'(by omega) : Nat) := by
      rw [List.getElem?_map, List.getElem?_eq_getElem (by omega)] at hx
      exact (Option.some.inj hx).symm
    have ey : y = .int (ns[i + 1] : Nat) := by
      rw [List.getElem?_drop, List.getElem?_map, show 1 + i = i + 1 by omega, List.getElem?_eq_getElem hi] at hy
      exact (Option.some.inj hy).symm
    subst ex ey
    have sT : Same H' (upd H' TT (.tup [.int (ns[i]'(by omega) : Nat), .int (ns[i + 1] : Nat)])) := same_upd hT
    refine ⟨TT, _, rfl, SqT.of upd_same, rfl, _, _, rfl, _, _, rfl, rfl, hw _ _, tyes (hs i hi _ _ (sm.trans sT) fun H4 s4 => ⟨_, s4 _ _ (sT _ _ hacc), ?_, fun b o q => ?_, ?_⟩)⟩
    · rw [List.length_map, List.length_map, List.length_range]; exact line_lt (by omega)
    · have n := ne_of_none q hA
      show (if b = A then none else upd H4 A _ b) = _
      rw [if_neg n, upd_ne n]
      exact s4 _ _ (sT _ _ (sm _ _ q))
    · rw [upd_same, List.range_succ, List.map_append, List.map_append, List.map_cons, List.map_nil, List.map_cons, List.map_nil, getD_map ns (by omega), getD_map ns hi]
  · intro H' ⟨s, hacc⟩
    have sm : Same H H' := fun b o q => by
      have r := s b o q
      simp only [if_neg (ne_of_none q hA)] at r
      exact r
    have m : min (ns.map fun j => V.int (j : Nat)).length ((ns.map fun j => V.int (j : Nat)).drop 1).length = ns.length - 1 := by
      rw [List.length_drop, List.length_map]; omega
    rw [m] at hacc
    exact hd H' (s0.trans sm) (SqL.of hacc)
theorem ok_is_way (T : Tx K mg) : FnOk P w K mg base CX0 4 T.is_way.f T.is_way.fd ["web", "thing"] (spJudge T.Web.C isWay) := by
  refine T.is_way.F.ok sc_is_way (fun vs H Q E h => ?_) (fun cdv A outer s H vs Q E hr h => ?_)
  · obtain ⟨_, p, n, rds, v, d, rfl, _⟩ := h
    rfl
  · obtain ⟨h, p, n, rds, v, d, rfl, W, r, k⟩ := h
    refine ⟨_, (pss_one (ps_ret (pe_and (pe_callB call_isi (by rfl) T.n_isinstance (by decide +kernel) (pa_cons (pv 1) (pa_cons (pe_bltn (v := .ty "tuple") (by rfl) T.n_tuple (by decide +kernel) rfl) pa_nil))) (pe_and (pe_chain op_le op_le pe_int (pe_callB call_len_seq (by rfl) T.n_len (by decide +kernel) (pa_cons (pv 1) pa_nil)) (pe_glob (v := .int 8) rfl T.c_LONGEST_WAY.choose_spec ⟨_, rfl⟩)) (pe_and (pe_callB (cr_all rfl) (by rfl) T.n_all (by decide +kernel) (pa_cons (pe_lc (own := [("road", 2)]) (g := (gName 2)) (tt := tYes) rfl sc_is_way.nd (pi_tup (pv 1)) (blkOk_by (own := [("road", 2)]) (N := ["web", "thing", "road", "after"]) (sc := defScope s_is_way) (by decide +kernel)) (fun _ _ _ _ _ => (pg_name (i := 2) sc_is_way.nd rfl (Or.inl rfl))) (fun _ _ _ _ _ => pts_nil) (fun _ _ _ _ _ => (by exact (pe_call (ok_is_road T) (hr.mono (by decide)) rfl T.is_road.g T.is_road.F.kp T.is_road.b .nil pass0 (pa_cons (pv 0) (pa_cons (pv 2) pa_nil)))))) pa_nil)) (pe_one (pe_callB (cr_all rfl) (by rfl) T.n_all (by decide +kernel) (pa_cons (pe_lc (own := [("road", 2), ("after", 3)]) (g := (gTup K 2 (gCons (gName 2) (gCons (gName 3) gNil)))) (tt := tYes) (te := (tOp rEq (tOp (rIxT K) (tOp (rIxT K) (tFld K (tVar 0) "roads") (tVar 2)) (tC (.int 1))) (tOp (rIxT K) (tOp (rIxT K) (tFld K (tVar 0) "roads") (tVar 3)) (tC (.int 0))))) rfl sc_is_way.nd (RZ.pi_zipA (by rfl) T.n_zip (pa_cons (pv 1) (pa_cons (pe_slice sl_tupA (pv 1) (po_some pe_int) po_none) pa_nil))) (blkOk_by (own := [("road", 2), ("after", 3)]) (N := ["web", "thing", "road", "after"]) (sc := defScope s_is_way) (by decide +kernel)) (fun _ _ _ _ _ => (pg_tup (by rfl) (pgs_cons (pg_name (i := 2) sc_is_way.nd rfl (Or.inl rfl)) (pgs_cons (pg_name (i := 3) sc_is_way.nd rfl (Or.inl rfl)) pgs_nil)))) (fun _ _ _ _ _ => pts_nil) (fun _ _ _ _ _ => (by exact (pe_cmpR op_eq (pe_ix ix_tup (pe_ix ix_tup (pe_fld (pv 0) rfl) (pv 2) (fun _ _ => rfl)) pe_int (fun _ _ => rfl)) (pe_ix ix_tup (pe_ix ix_tup (pe_fld (pv 0) rfl) (pv 3) (fun _ _ => rfl)) pe_int (fun _ _ => rfl)) (nomark _))))) pa_nil)))))))), ?_⟩
    refine ⟨_, rfl, _, _, _, _, _, rfl, .ty "tuple", r.ty, kit_ty (kitT d), _, rfl, ?_⟩
    cases r with
    | @tup pa xs ds e z ra =>
      refine iteT ?_
      refine ⟨_, rfl, _, _, rfl, .inr (SqT.of e), _, _, rfl, rfl, _, rfl, ?_⟩
      rw [ra.len]
      by_cases h1 : 1 ≤ ds.length
      · rw [decide_eq_true (show (1 : Int) ≤ (ds.length : Int) by omega)]
        refine iteT ?_
        refine ⟨_, _, rfl, rfl, _, rfl, ?_⟩
        by_cases h2 : ds.length ≤ 8
        · rw [decide_eq_true (show (ds.length : Int) ≤ 8 by omega)]
          refine iteT ?_
          refine ⟨_, rfl, _, rfl, ⟨_, SqT.of e⟩, fun A hA => all_tup e z ra (isRoad rds) hA (fun x => rfl) (fun x d H' Q' _ s1 rp q => ?_) (fun H' sm sl => ?_)⟩
          · exact ⟨_, rfl, _, rfl, h, p, n, rds, _, _, rfl, W.same s1, rp, q _ (Same.refl _)⟩
          · refine ⟨_, _, rfl, sl, _, rfl, ?_⟩
            rw [map_all]
            cases e1 : ds.all (isRoad rds) with
            | false =>
              refine iteF ?_
              have := k H' sm
              rw [isWay_tup, e1, decide_eq_true h1, decide_eq_true h2] at this
              exact this
            | true =>
              refine iteT ?_
              obtain ⟨ns, rfl, rfl, hn⟩ := roads_in ra e1
              rw [List.length_map] at z
              refine ⟨_, rfl, _, rfl, _, rfl, ?_⟩
              delta tNoPart
              refine sl1 (sm _ _ e) fun b H1 s1 eb => ?_
              refine ⟨_, _, _, _, rfl, .inr ⟨SqT.of (s1 _ _ (sm _ _ e)), SqT.of eb, fun A2 hA2 => lc_next (fun a b => decide (en (dAt rds a) = bg (dAt rds b))) (sm.trans s1) hA2 (s1 _ _ (sm _ _ e)) eb z (fun x y => rfl) (fun i hi H2 Q' s2 q => ?_) (fun H2 s2 sl2 => ?_)⟩⟩
              · obtain ⟨dx, v1, v2, v3, v4, hp, r2⟩ := (W.same (sm.trans (s1.trans s2))).ex
                obtain ⟨pw, xw, rfl, ew, zw, rw_⟩ := tup_inv r2
                obtain ⟨q1, a1, b1, y1, y2, y3, y4⟩ := rw_.road W.all (hn _ (List.getElem_mem (show i < ns.length by omega)))
                obtain ⟨q2, a2, b2, w1, w2, w3, w4⟩ := rw_.road W.all (hn _ (List.getElem_mem hi))
                refine ⟨_, rfl, p, T.Web.C, dx, _, _, rfl, hp, T.Web.cl, T.Web.no _ (by simp), wF_r _ _ _ _, _, rfl, pw, xw, _, _, rfl, rfl, SqT.of ew, atI_nat y1, q1, _, 1, _, rfl, rfl, SqT.of y2, atI_nat (j := 1) rfl, ?_⟩
                refine ⟨_, rfl, p, T.Web.C, dx, _, _, rfl, hp, T.Web.cl, T.Web.no _ (by simp), wF_r _ _ _ _, _, rfl, pw, xw, _, _, rfl, rfl, SqT.of ew, atI_nat w1, q2, _, 0, _, rfl, rfl, SqT.of w2, atI_nat (j := 0) rfl, rfl, ?_⟩
                rw [int_eqd, ← y4, ← w3]
                exact q _ (Same.refl _)
              · refine ⟨_, _, rfl, sl2, ?_⟩
                rw [map_range_all]
                have := k H2 s2
                rw [isWay_tup, e1, decide_eq_true h1, decide_eq_true h2, Bool.true_and, Bool.true_and, Bool.true_and, nums_map] at this
                unfold adj at this
                rw [List.length_map] at this
                exact this
        · rw [decide_eq_false (show ¬ (ds.length : Int) ≤ 8 by omega)]
          refine iteF ?_
          have := k H (Same.refl _)
          rw [isWay_tup, decide_eq_true h1, decide_eq_false h2] at this
          exact this
      · rw [decide_eq_false (show ¬ (1 : Int) ≤ (ds.length : Int) by omega)]
        refine iteF ⟨_, rfl, iteF ?_⟩
        have := k H (Same.refl _)
        rw [isWay_tup, decide_eq_false h1] at this
        exact this
    | _ => exact iteF (k H (Same.refl _))
end
end Hc


set_option Elab.async false
set_option linter.all false
set_option maxRecDepth 100000
set_option maxHeartbeats 1000000
set_option autoImplicit false
namespace Hc
open PySem L2
/-- a drawn web as the law holds it -/
structure WebL (H : Hp) (h : Addr) (v : V) (n : Int) (rds : List D) : Prop where
  ex : ∃ rm tm, Rp H h v (.tup [.int n, .tup rds, rm, tm])
  all : rds.all (isBE n) = true
  l1 : 1 ≤ rds.length
  l2 : rds.length ≤ 24
theorem WebL.same {H H' : Hp} {h : Addr} {v : V} {n : Int} {rds : List D} (w : WebL H h v n rds) (s : Same H H') : WebL H' h v n rds := by
  obtain ⟨⟨rm, tm, r⟩, a, b, c⟩ := w
  exact ⟨⟨rm, tm, r.same s⟩, a, b, c⟩
theorem WebL.but {H H' : Hp} {h c : Addr} {v : V} {n : Int} {rds : List D} (w : WebL H h v n rds) (k : But h H H') (hA : HandAt H h c) : WebL H' h v n rds := by
  obtain ⟨⟨rm, tm, r⟩, a, b, d⟩ := w
  exact ⟨⟨rm, tm, r.monoB k hA⟩, a, b, d⟩
theorem WebL.inv {H : Hp} {h : Addr} {v : V} {n : Int} {rds : List D} (w : WebL H h v n rds) : ∃ p q x3 x4 xs, v = .ref p ∧ H p = some (.tup [.int n, .ref q, x3, x4]) ∧ H q = some (.tup xs) ∧ RpA H h xs rds := by
  obtain ⟨⟨rm, tm, r⟩, _⟩ := w
  obtain ⟨p, ys, rfl, e, _, ra⟩ := tup_inv r
  cases ra with
  | cons r1 ra =>
  cases ra with
  | cons r2 ra =>
  cases ra with
  | cons r3 ra =>
  cases ra with
  | cons r4 ra =>
  cases ra
  cases r1
  obtain ⟨q, xs, rfl, e2, _, r2'⟩ := tup_inv r2
  exact ⟨p, q, _, _, xs, rfl, e, e2, r2'⟩
/-- a tuple of natural numbers -/
def nD (ns : List Nat) : D := .tup (ns.map fun j => .int (j : Nat))
theorem nD_inv {H : Hp} {h : Addr} {v : V} {ns : List Nat} (r : Rp H h v (nD ns)) : ∃ a, v = .ref a ∧ H a = some (.tup (ns.map fun j => V.int (j : Nat))) ∧ ns.length ≤ 100000 := by
  obtain ⟨a, xs, rfl, e, z, ra⟩ := tup_inv r
  have key : ∀ {xs : List V} {ns : List Nat}, RpA H h xs (ns.map fun j => D.int (j : Nat)) → xs = ns.map fun j => V.int (j : Nat) := by
    intro xs ns
    induction ns generalizing xs with
    | nil => intro r; cases r; rfl
    | cons n ns ih =>
      intro r
      cases r with
      | cons r1 r2 => cases r1; rw [ih r2]; rfl
  have := key ra
  subst this
  rw [List.length_map] at z
  exact ⟨a, rfl, e, z⟩
theorem nD_mk {H : Hp} {h : Addr} {a : Addr} {ns : List Nat} (e : H a = some (.tup (ns.map fun j => V.int (j : Nat)))) (z : ns.length ≤ 100000) : Rp H h (.ref a) (nD ns) := by
  refine .tup e (by rw [List.length_map]; exact z) ?_
  clear e z
  induction ns with
  | nil => exact .nil
  | cons n ns ih => exact .cons (.int _) ih
section
variable {P : Program} {w : World} {K : PySem.W.Frag} {mg : Str → Option Value} {base : Heap}
def spNextL : Sp := fun vs H Q _ => ∃ (h : Addr) (v : V) (n : Int) (rds : List D) (j : Nat), vs = [v, .int j] ∧ WebL H h v n rds ∧ j < rds.length ∧
  ∀ a H', Same H H' → H a = none → H' a = some (.lst ((nextL rds j).map fun j => V.int (j : Nat))) → Q (.ref a) H'
theorem ok__law_next (T : Tx K mg) : FnOk P w K mg base CX0 1 T._law_next.f T._law_next.fd ["_law_web_here", "_law_road"] spNextL := by
  refine T._law_next.F.ok sc_law_next (fun vs H Q E h => ?_) (fun cdv A outer s H vs Q E hr h => ?_)
  · obtain ⟨_, v, n, rds, j, rfl, _⟩ := h
    rfl
  · obtain ⟨h, v, n, rds, j, rfl, W, hj, k⟩ := h
    obtain ⟨p, q, x3, x4, xs, rfl, e1, e2, ra⟩ := W.inv
    have hl := ra.len
    refine ⟨_, (pss_one (ps_ret (pe_lc (own := [("_law_other", 2)]) (g := (gName 2))  (tt := (tTest (tOp rEq (tOp (rIxT K) (tOp (rIxT K) (tOp (rIxT K) (tVar 0) (tC (.int 1))) (tVar 2)) (tC (.int 0))) (tOp (rIxT K) (tOp (rIxT K) (tOp (rIxT K) (tVar 0) (tC (.int 1))) (tVar 1)) (tC (.int 1)))))) rfl sc_law_next.nd (pi_range1 (by rfl) T.n_range (pa_cons (pe_callB call_len_seq (by rfl) T.n_len (by decide +kernel) (pa_cons (pe_ix ix_tup (pv 0) pe_int (fun _ _ => rfl)) pa_nil)) pa_nil)) (blkOk_by (own := [("_law_other", 2)]) (N := ["_law_web_here", "_law_road", "_law_other"]) (sc := defScope s_law_next) (by decide +kernel)) (fun _ _ _ _ _ => (pg_name (i := 2) sc_law_next.nd rfl (Or.inl rfl))) (fun _ _ _ _ _ => (pts_one (by exact (pt_cmpR op_eq (pe_ix ix_tup (pe_ix ix_tup (pe_ix ix_tup (pv 0) pe_int (fun _ _ => rfl)) (pv 2) (fun _ _ => rfl)) pe_int (fun _ _ => rfl)) (pe_ix ix_tup (pe_ix ix_tup (pe_ix ix_tup (pv 0) pe_int (fun _ _ => rfl)) (pv 1) (fun _ _ => rfl)) pe_int (fun _ _ => rfl)) (nomark _))))) (fun _ _ _ _ _ => (by exact (pv 2)))))), ?_⟩
    have l2 := W.l2
    refine ⟨_, rfl, _, _, 1, _, rfl, rfl, SqT.of e1, atI_nat (j := 1) rfl, q, xs, rfl, .inr (SqT.of e2), (xs.length : Int), rfl, by omega, by omega, fun A hA => ?_⟩
    obtain ⟨qj, aj, bj, y1, y2, y3, y4⟩ := ra.road W.all hj
    have en1 : en (dAt rds (j : Nat)) = bj := by unfold dAt; rw [Int.toNat_natCast]; exact y4
    refine lc_range (lo := 0) (n := (xs.length : Int).toNat) (fun i H' => (∀ b o, H b = some o → H' b = some o) ∧ H' A = some (.lst (((List.range i).filter fun j' => decide (bg (rds.getD j' .non) = en (dAt rds j))).map fun j' => V.int (j' : Nat))))
      ⟨same_upd hA, upd_same⟩ ?_ ?_
    · rintro i H' hi ⟨s, hacc⟩
      have hi' : i < rds.length := by omega
      obtain ⟨q', a', b', z1, z2, z3, z4⟩ := ra.road W.all hi'
      refine ⟨rfl, _, rfl, _, _, 1, _, rfl, rfl, SqT.of (s _ _ e1), atI_nat (j := 1) rfl, _, rfl, q, xs, _, _, rfl, rfl, SqT.of (s _ _ e2), at_of (by omega) z1, q', _, 0, _, rfl, rfl, SqT.of (s _ _ z2), atI_nat (j := 0) rfl, ?_⟩
      refine ⟨_, rfl, _, _, 1, _, rfl, rfl, SqT.of (s _ _ e1), atI_nat (j := 1) rfl, _, rfl, q, xs, _, _, rfl, rfl, SqT.of (s _ _ e2), atI_nat y1, qj, _, 1, _, rfl, rfl, SqT.of (s _ _ y2), atI_nat (j := 1) rfl, rfl, _, rfl, ?_⟩
      rw [int_eqd]
      have step : ∀ (c : Bool), decide (bg (rds.getD i .non) = en (dAt rds j)) = c → (List.range (i + 1)).filter (fun j' => decide (bg (rds.getD j' .non) = en (dAt rds j))) = (List.range i).filter (fun j' => decide (bg (rds.getD j' .non) = en (dAt rds j))) ++ (if c = true then [i] else []) := fun c hc => by
        rw [List.range_succ, List.filter_append]
        congr 1
        rw [List.filter_cons, hc]
        rfl
      by_cases g : a' = bj
      · rw [decide_eq_true g]
        have st := step true (by rw [z3, en1]; exact decide_eq_true g)
        refine iteT ⟨_, rfl, _, hacc, ?_, fun b o q => ?_, ?_⟩
        · rw [List.length_map]
          have := List.length_filter_le (fun j' => decide (bg (rds.getD j' .non) = en (dAt rds j))) (List.range i)
          rw [List.length_range] at this
          exact line_lt (by omega)
        · rw [upd_ne (ne_of_none q hA)]
          exact s _ _ q
        · rw [upd_same, st, List.map_append, if_pos rfl, List.map_cons, List.map_nil, Int.zero_add]
      · rw [decide_eq_false g]
        have st := step false (by rw [z3, en1]; exact decide_eq_false g)
        refine iteF ⟨s, ?_⟩
        rw [hacc, st, if_neg (by decide), List.append_nil]
    · rintro H' ⟨s, hacc⟩
      have : (xs.length : Int).toNat = rds.length := by omega
      rw [this] at hacc
      exact k A H' s hA hacc
end
end Hc


set_option Elab.async false
set_option linter.all false
set_option maxRecDepth 100000
set_option maxHeartbeats 1000000
set_option autoImplicit false
local macro_rules | `(tactic| walk_at "gen") => `(tactic| (generalize hE : L2.upd _ _ _ = H2; have q := Hc.new_facts (by assumption) (by assumption) hE; clear hE; obtain ⟨s2, e2, n2, n3, hA2⟩ := q))
namespace Hc
open PySem L2
/-- each road begins where the one ahead ends -/
def wayOk (rds : List D) (ns : List Nat) : Prop := ∀ i, i + 1 < ns.length → en (dAt rds ((ns.getD i 0 : Nat) : Int)) = bg (dAt rds ((ns.getD (i + 1) 0 : Nat) : Int))
theorem wayOk_one (rds : List D) (m : Nat) : wayOk rds [m] := fun i hi => by simp at hi
theorem wayOk_app {rds : List D} {ns : List Nat} {j x : Nat} (h : wayOk rds (ns ++ [j])) (e : en (dAt rds (j : Nat)) = bg (dAt rds (x : Nat))) : wayOk rds (ns ++ [j] ++ [x]) := fun i hi => by
  rw [List.length_append, List.length_append] at hi
  simp only [List.length_singleton] at hi
  by_cases q : i + 1 < (ns ++ [j]).length
  · have := h i q
    rw [List.getD_eq_getElem?_getD, List.getD_eq_getElem?_getD, List.getElem?_append_left (by omega), List.getElem?_append_left q]
    rw [List.getD_eq_getElem?_getD, List.getD_eq_getElem?_getD] at this
    exact this
  · rw [List.length_append, List.length_singleton] at q
    have ei : i = ns.length := by omega
    subst ei
    have e1 : (ns ++ [j] ++ [x]).getD ns.length 0 = j := by
      rw [List.getD_eq_getElem?_getD, List.append_assoc, List.getElem?_append_right (Nat.le_refl _), Nat.sub_self]; rfl
    have e2 : (ns ++ [j] ++ [x]).getD (ns.length + 1) 0 = x := by
      rw [List.getD_eq_getElem?_getD, List.getElem?_append_right (by simp), List.length_append, List.length_singleton, Nat.sub_self]; rfl
    rw [e1, e2]
    exact e
theorem way_ok {rds : List D} {ns : List Nat} (h0 : 1 ≤ ns.length) (h8 : ns.length ≤ 8) (h1 : ∀ j ∈ ns, j < rds.length) (h2 : wayOk rds ns) : isWay rds (nD ns) = true := by
  show isWay rds (.tup (ns.map fun j => .int (j : Nat))) = true
  rw [isWay_tup, List.length_map, decide_eq_true h0, decide_eq_true h8, Bool.true_and, Bool.true_and, Bool.and_eq_true]
  constructor
  · rw [List.all_eq_true]
    intro d hd
    obtain ⟨j, hj, rfl⟩ := List.mem_map.mp hd
    have := h1 j hj
    exact btw_of (by omega) (by omega)
  · rw [nums_map]
    unfold adj
    rw [List.all_eq_true, List.length_map]
    intro j hj
    have hj := List.mem_range.mp hj
    have a1 : j < ns.length := by omega
    have a2 : j + 1 < ns.length := by omega
    rw [getD_map ns a1, getD_map ns a2]
    have := h2 j a2
    rw [List.getD_eq_getElem?_getD, List.getElem?_eq_getElem a1, List.getD_eq_getElem?_getD, List.getElem?_eq_getElem a2] at this
    exact decide_eq_true this
section
variable {P : Program} {w : World} {K : PySem.W.Frag} {mg : Str → Option Value} {base : Heap}
def spWayL : Sp := fun vs H Q _ => ∃ (h c : Addr) (v : V) (n : Int) (rds : List D) (mo : Int), vs = [.ref h, v, .int mo] ∧ HandAt H h c ∧ WebL H h v n rds ∧ 1 ≤ mo ∧ mo ≤ 1000 ∧
  ∀ v' ns H', HandAt H' h c → But h H H' → Rp H' h v' (nD ns) → 1 ≤ ns.length → (ns.length : Int) ≤ mo → (∀ j ∈ ns, j < rds.length) → wayOk rds ns → Q v' H'
theorem ok__law_way (T : Tx K mg) : FnOk P w K mg base CX0 2 T._law_way.f T._law_way.fd ["_law_hand_here", "_law_web_here", "_law_most"] spWayL := by
  refine T._law_way.F.ok sc_law_way (fun vs H Q E h => ?_) (fun cdv A outer s H vs Q E hr h => ?_)
  · obtain ⟨h, c, v, n, rds, mo, rfl, _⟩ := h
    rfl
  · obtain ⟨h, c, v, n, rds, mo, rfl, hA, W, mo0, mo1, k⟩ := h
    obtain ⟨p, q, x3, x4, xs, rfl, e1, e2, ra⟩ := W.inv
    have hl := ra.len
    have l1 := W.l1
    have l2 := W.l2
    refine ⟨_, (pss_cons (ps_set (i := 3) sc_law_way.nd rfl (Or.inl rfl) (pe_tup (pa_cons (pe_call (ok__law_draw T) (hr.mono (by decide)) rfl T._law_draw.g T._law_draw.F.kp T._law_draw.b .nil pass0 (pa_cons (pv 0) (pa_cons (pe_callB call_len_seq (by rfl) T.n_len (by decide +kernel) (pa_cons (pe_ix ix_tup (pv 1) pe_int (fun _ _ => rfl)) pa_nil)) pa_nil))) pa_nil)))
      (pss_cons (ps_for PassesOwn.never rfl (pi_range1 (by rfl) T.n_range (pa_cons (pe_call (ok__law_draw T) (hr.mono (by decide)) rfl T._law_draw.g T._law_draw.F.kp T._law_draw.b .nil pass0 (pa_cons (pv 0) (pa_cons (pv 2) pa_nil))) pa_nil)) (pg_name (i := 4) sc_law_way.nd rfl (Or.inl rfl))
      (pss_cons (ps_set (i := 5) sc_law_way.nd rfl (Or.inl rfl) (pe_call (ok__law_next T) (hr.mono (by decide)) rfl T._law_next.g T._law_next.F.kp T._law_next.b .nil pass0 (pa_cons (pv 1) (pa_cons (pe_ix ix_tup (pv 3) (pe_un un_neg pe_int) (fun _ _ => rfl)) pa_nil))))
      (pss_one (ps_if (pt_cmpR op_gt (pe_callB call_len_seq (by rfl) T.n_len (by decide +kernel) (pa_cons (pv 5) pa_nil)) pe_int (nomark _))
      (pss_one (ps_set (i := 3) sc_law_way.nd rfl (Or.inl rfl) (pe_op op_catA (pv 3) (pe_tup (pa_cons (pe_ix ix_list (pv 5) (pe_call (ok__law_draw T) (hr.mono (by decide)) rfl T._law_draw.g T._law_draw.F.kp T._law_draw.b .nil pass0 (pa_cons (pv 0) (pa_cons (pe_callB call_len_seq (by rfl) T.n_len (by decide +kernel) (pa_cons (pv 5) pa_nil)) pa_nil))) (fun _ _ => rfl)) pa_nil)))))
      pss_nil))))
      (pss_one (ps_ret (pv 3))))), ?_⟩
    refine ⟨_, rfl, _, rfl, _, _, 1, _, rfl, rfl, SqT.of e1, atI_nat (j := 1) rfl, q, xs, rfl, .inr (SqT.of e2), h, c, _, rfl, hA, by omega, by omega, fun m H1 m0 m1 hA1 b1 => ⟨by show 1 ≤ sizeLine; decide, fun p1 hp1 => ?_⟩⟩
    have W1 := W.but b1 hA
    walk_at "gen"
    rename_i H2 s2 e2' n2 _ hA2
    have W2 := W1.same s2
    obtain ⟨m', rfl⟩ := Int.eq_ofNat_of_zero_le m0
    refine ⟨_, rfl, _, rfl, h, c, mo, rfl, hA2, by omega, by omega, fun kk H3 k0 k1 hA3 b3 => ⟨kk, rfl, by omega, by omega, for_range (lo := 0) (n := kk.toNat) (fun i σ' H' => ∃ (wv : V) (ns : List Nat) (tv bv : Option V),
      σ' = [some (.ref h), some (.ref p), some (.int mo), some wv, tv, bv] ∧ HandAt H' h c ∧ But h H H' ∧ Rp H' h wv (nD ns) ∧ 1 ≤ ns.length ∧ ns.length ≤ i + 1 ∧ (∀ j ∈ ns, j < rds.length) ∧ WebL H' h (.ref p) n rds ∧ wayOk rds ns)
      ⟨.ref p1, [m'], none, none, rfl, hA3, (b1.trans (But.of s2)).trans b3, nD_mk (b3 _ _ e2' n2) (by simp), by simp, by simp, fun j hj => by rw [List.mem_singleton] at hj; omega, W2.but b3 hA2, wayOk_one rds m'⟩ ?_ ?_⟩⟩
    · rintro i σ' H4 hi ⟨wv, ns, tv, bv, rfl, hA4, b4, r4, n1, n2', hn, W4, wo⟩
      obtain ⟨wa, rfl, ew, zw⟩ := nD_inv r4
      rcases List.eq_nil_or_concat ns with e | ⟨ns', jl, e⟩
      · subst e; simp at n1
      rw [List.concat_eq_append] at e
      have hjl : jl < rds.length := hn jl (by rw [e]; simp)
      have ela : atI (ns.map fun j => V.int (j : Nat)) (-1) = some (.int (jl : Nat)) := by
        rw [e, List.map_append]
        exact atI_last _ _
      refine ⟨_, rfl, _, rfl, _, rfl, wa, _, _, _, rfl, rfl, SqT.of ew, ela, h, .ref p, n, rds, jl, rfl, W4, hjl, fun b H5 s5 fb e5 => ?_⟩
      have hA5 := hA4.mono s5
      have nb := (hA4.ne fb).1
      have W5 := W4.same s5
      have r5 := r4.same s5
      refine ⟨_, rfl, b, _, rfl, .inl (SqL.of e5), _, _, rfl, rfl, _, rfl, ?_⟩
      have zl := List.length_filter_le (fun j' => decide (bg (rds.getD j' .non) = en (dAt rds jl))) (List.range rds.length)
      rw [List.length_range] at zl
      have zl' : (nextL rds jl).length ≤ rds.length := zl
      rw [List.length_map]
      by_cases g : (0 : Int) < ((nextL rds jl).length : Int)
      · rw [decide_eq_true g]
        refine iteT ⟨_, rfl, _, rfl, _, rfl, _, rfl, b, _, rfl, .inl (SqL.of e5), h, c, _, rfl, hA5, by rw [List.length_map]; exact g, by rw [List.length_map]; omega, fun x H6 x0 x1 hA6 b6 => ?_⟩
        rw [List.length_map] at x1
        obtain ⟨x', rfl⟩ := Int.eq_ofNat_of_zero_le x0
        have hx' : x' < (nextL rds jl).length := by omega
        have ex : ((nextL rds jl).map fun j => V.int (j : Nat))[x']? = some (.int ((nextL rds jl)[x'] : Nat)) := by rw [List.getElem?_map, List.getElem?_eq_getElem hx']; rfl
        have hin : (nextL rds jl)[x'] < rds.length := by
          have := List.getElem_mem hx'
          have := (List.mem_filter.mp this).1
          exact List.mem_range.mp this
        refine ⟨b, _, _, _, rfl, rfl, SqL.of (b6 _ _ e5 nb), atI_nat ex, by show 1 ≤ sizeLine; decide, fun p7 hp7 => ?_⟩
        have r6 := r5.monoB b6 hA5
        have W6 := W5.but b6 hA5
        walk_at "gen"
        rename_i H7 s7 e7 n7 _ hA7
        refine catA_rp (es := [.int ((nextL rds jl)[x'] : Nat)]) hA7 (r6.same s7) (.tup e7 (by simp) (.cons (.int _) .nil)) (by rw [List.length_map]; simp; omega) fun v8 H8 s8 hA8 r8 => ?_
        refine ⟨v8, ns ++ [(nextL rds jl)[x']], _, _, rfl, hA8, b4.trans ((But.of s5).trans (b6.trans (But.of (s7.trans s8)))), ?_, ?_, ?_, ?_, (W6.same s7).same s8, ?_⟩
        · unfold nD
          rw [List.map_append]
          exact r8
        · rw [List.length_append]; omega
        · rw [List.length_append, List.length_singleton]; omega
        · intro j hj
          rcases List.mem_append.mp hj with hj | hj
          · exact hn j hj
          · rw [List.mem_singleton] at hj
            subst hj
            exact hin
        · have g := of_decide_eq_true (List.mem_filter.mp (List.getElem_mem hx')).2
          rw [e] at wo ⊢
          refine wayOk_app wo ?_
          rw [← g]
          unfold dAt
          rw [Int.toNat_natCast]
      · rw [decide_eq_false g]
        exact iteF ⟨_, ns, _, _, rfl, hA5, b4.trans (But.of s5), r5, n1, by omega, hn, W5, wo⟩
    · rintro σ' H4 ⟨wv, ns, tv, bv, rfl, hA4, b4, r4, n1, n2', hn, W4, wo⟩
      exact ⟨_, rfl, k wv ns H4 hA4 b4 r4 n1 (by omega) hn wo⟩
end
end Hc


set_option Elab.async false
set_option linter.all false
set_option maxRecDepth 100000
set_option maxHeartbeats 1000000
set_option autoImplicit false
namespace Hc
open PySem L2
/-- what is no list stays -/
def NL (H H' : Hp) : Prop := ∀ b o, H b = some o → (∀ xs, o ≠ .lst xs) → H' b = some o
theorem NL.refl (H : Hp) : NL H H := fun _ _ e _ => e
theorem NL.trans {H H1 H2 : Hp} (a : NL H H1) (b : NL H1 H2) : NL H H2 := fun c o e n => b c o (a c o e n) n
theorem NL.of {H H' : Hp} (s : Same H H') : NL H H' := fun b o e _ => s b o e
theorem NL.upd {H : Hp} {p : Addr} {o : HO} {xs : List V} (e : H p = some (.lst xs)) : NL H (upd H p o) := fun b u q n => by
  rw [upd_ne (fun z => by subst z; rw [e] at q; exact n xs (Option.some.inj q).symm)]
  exact q
theorem NL.tup {H H' : Hp} (k : NL H H') {b : Addr} {xs : List V} (e : H b = some (.tup xs)) : H' b = some (.tup xs) := k _ _ e (fun _ z => by cases z)
mutual
def noL : D → Bool
  | .lst => false
  | .tup ds => noLs ds
  | _ => true
def noLs : List D → Bool
  | [] => true
  | d :: ds => noL d && noLs ds
end
section
variable {H H' : Hp} {h : Addr}
mutual
theorem Rp.nl (k : NL H H') : ∀ {v : V} {d : D}, Rp H h v d → noL d = true → Rp H' h v d
  | _, _, .non, _ => .non
  | _, _, .bl b, _ => .bl b
  | _, _, .int i, _ => .int i
  | _, _, .str x, _ => .str x
  | _, _, .tup e z r, n => .tup (k.tup e) z (RpA.nl k r n)
  | _, _, .lst _ _, n => by cases n
  | _, _, .dct e, _ => .dct (k _ _ e (fun _ z => by cases z))
theorem RpA.nl (k : NL H H') : ∀ {vs : List V} {ds : List D}, RpA H h vs ds → noLs ds = true → RpA H' h vs ds
  | _, _, .nil, _ => .nil
  | _, _, .cons a r, n => by
    have n : (noL _ && noLs _) = true := n
    rw [Bool.and_eq_true] at n
    exact .cons (Rp.nl k a n.1) (RpA.nl k r n.2)
end
end
theorem noL_be {n : Int} : ∀ {rds : List D}, rds.all (isBE n) = true → noLs rds = true
  | [], _ => rfl
  | d :: ds, e => by
    rw [List.all_cons, Bool.and_eq_true] at e
    obtain ⟨a, b, rfl, _⟩ := be_full e.1
    show (noL _ && noLs ds) = true
    rw [noL_be e.2]; rfl
theorem noL_nat : ∀ ns : List Nat, noLs (ns.map fun j => D.int (j : Nat)) = true
  | [] => rfl
  | n :: ns => by
    show (noL _ && noLs _) = true
    rw [noL_nat ns]; rfl
theorem noL_nD (ns : List Nat) : noL (nD ns) = true := noL_nat ns
theorem noL_int : ∀ ns : List Int, noLs (ns.map D.int) = true
  | [] => rfl
  | n :: ns => by
    show (noL _ && noLs _) = true
    rw [noL_int ns]; rfl
theorem But.nl {h : Addr} {H H' : Hp} (k : But h H H') (l : IsLst H h) : NL H H' := fun b o e n => k b o e (fun z => by
  subst z
  obtain ⟨xs, q⟩ := l
  rw [e] at q
  exact n xs (Option.some.inj q))
theorem btw_inv {m lo hi : Int} {d : D} (e : areBtw m lo hi d = true) : ∃ ns : List Int, d = .tup (ns.map D.int) ∧ (ns.length : Int) = m ∧ ∀ x ∈ ns, lo ≤ x ∧ x ≤ hi := by
  cases d with
  | tup ds =>
    rw [areBtw_tup, Bool.and_eq_true] at e
    obtain ⟨h1, h2⟩ := e
    have h1 := of_decide_eq_true h1
    have key : ∀ ds : List D, ds.all (isBtw lo hi) = true → ∃ ns : List Int, ds = ns.map D.int ∧ ∀ x ∈ ns, lo ≤ x ∧ x ≤ hi := by
      intro ds
      induction ds with
      | nil => exact fun _ => ⟨[], rfl, fun _ z => nomatch z⟩
      | cons d ds ih =>
        intro h
        rw [List.all_cons, Bool.and_eq_true] at h
        obtain ⟨n, rfl⟩ := btw_shape h.1
        obtain ⟨ns, rfl, hn⟩ := ih h.2
        have e1 : (decide (lo ≤ n) && decide (n ≤ hi)) = true := h.1
        rw [Bool.and_eq_true] at e1
        refine ⟨n :: ns, rfl, fun x hx => ?_⟩
        rcases List.mem_cons.mp hx with rfl | hx
        · exact ⟨of_decide_eq_true e1.1, of_decide_eq_true e1.2⟩
        · exact hn x hx
    obtain ⟨ns, rfl, hn⟩ := key ds h2
    exact ⟨ns, rfl, by rw [List.length_map] at h1; exact h1, hn⟩
  | _ => exact Bool.noConfusion e
/-- a drawn web, whole -/
structure WebF (H : Hp) (h : Addr) (v : V) (n : Int) (rds : List D) (rm tm : List Int) : Prop where
  r : Rp H h v (.tup [.int n, .tup rds, .tup (rm.map D.int), .tup (tm.map D.int)])
  n0 : 2 ≤ n
  n1 : n ≤ 12
  all : rds.all (isBE n) = true
  l1 : 1 ≤ rds.length
  l2 : rds.length ≤ 24
  lr : rm.length = rds.length
  lt : tm.length = rds.length
  br : ∀ x ∈ rm, 1 ≤ x ∧ x ≤ 3
  bt : ∀ x ∈ tm, 1 ≤ x ∧ x ≤ 3
theorem WebF.nl {H H' : Hp} {h : Addr} {v : V} {n : Int} {rds : List D} {rm tm : List Int} (x : WebF H h v n rds rm tm) (k : NL H H') : WebF H' h v n rds rm tm :=
  ⟨x.r.nl k (by simp only [noL, noLs, noL_be x.all, noL_int, Bool.and_true]), x.n0, x.n1, x.all, x.l1, x.l2, x.lr, x.lt, x.br, x.bt⟩
theorem WebF.w {H : Hp} {h : Addr} {v : V} {n : Int} {rds : List D} {rm tm : List Int} (x : WebF H h v n rds rm tm) : WebL H h v n rds := ⟨⟨_, _, x.r⟩, x.all, x.l1, x.l2⟩
theorem webF_of {H : Hp} {h : Addr} {v : V} {d : D} {towns most : Int} (r : Rp H h v d) (w : WebD towns most d) (ht : towns ≤ 12) (hm : most ≤ 24) : ∃ n rds rm tm, WebF H h v n rds rm tm ∧ (rds.length : Int) ≤ most := by
  obtain ⟨n, ds, rm, tm, rfl, h1, h2, h3, h4, h5, h6, h7⟩ := w.ex
  obtain ⟨rs, rfl, r1, r2⟩ := btw_inv h6
  obtain ⟨ts, rfl, t1, t2⟩ := btw_inv h7
  exact ⟨n, ds, rs, ts, ⟨r, h1, by omega, h5, h3, by omega, by omega, by omega, r2, t2⟩, h4⟩
/-! ### letters and their hours -/
abbrev Lt := List Nat × Int
/-- the tick from which on the next place may be passed -/
def nextAt (tm : List Int) (l : Lt) (r : List Int) : Int := if r.length = 0 then l.2 else r.getD (r.length - 1) 0 + tm.getD (l.1.getD (r.length - 1) 0) 0
/-- no hour is earlier than may be -/
def EarlyOk (tm : List Int) (l : Lt) (r : List Int) : Prop := ∀ j, j < r.length → nextAt tm l (r.take j) ≤ r.getD j 0
/-- what is passed: roads and hours -/
def es : List Lt → List (List Int) → List (Nat × Int)
  | l :: ls, r :: rs => l.1.zip r ++ es ls rs
  | _, _ => []
def tot (rows : List (List Int)) : Nat := (rows.map List.length).sum
theorem es_cons (l : Lt) (ls : List Lt) (r : List Int) (rs : List (List Int)) : es (l :: ls) (r :: rs) = l.1.zip r ++ es ls rs := rfl
theorem zip_snoc : ∀ {w : List Nat} {r : List Int} {t : Int} (h : r.length < w.length), w.zip (r ++ [t]) = w.zip r ++ [(w.getD r.length 0, t)]
  | [], _, _, h => by simp at h
  | x :: w, [], t, _ => by simp
  | x :: w, y :: r, t, h => by
    have := zip_snoc (w := w) (r := r) (t := t) (by simp at h; omega)
    show (x, y) :: w.zip (r ++ [t]) = _
    rw [this]
    show _ = (x, y) :: w.zip r ++ [((x :: w).getD (r.length + 1) 0, t)]
    rw [List.getD_cons_succ]; rfl
theorem count_set {x : Nat × Int} {t : Int} : ∀ {ls : List Lt} {rows : List (List Int)} {k : Nat} {l : Lt} {r : List Int}, ls[k]? = some l → rows[k]? = some r → r.length < l.1.length →
    (es ls (rows.set k (r ++ [t]))).count x = (es ls rows).count x + if (l.1.getD r.length 0, t) = x then 1 else 0
  | [], _, _, _, _, e, _, _ => by simp at e
  | _ :: _, [], _, _, _, _, e, _ => by simp at e
  | a :: ls, b :: rows, 0, l, r, e1, e2, h => by
    have e1 : a = l := by simpa using e1
    have e2 : b = r := by simpa using e2
    subst e1 e2
    rw [List.set_cons_zero, es_cons, es_cons, zip_snoc h, List.count_append, List.count_append, List.count_append, List.count_singleton]
    by_cases q : (a.1.getD b.length 0, t) = x
    · rw [if_pos q, if_pos (by simpa using q)]; omega
    · rw [if_neg q, if_neg (by simpa using q)]; omega
  | a :: ls, b :: rows, k + 1, l, r, e1, e2, h => by
    have := count_set (x := x) (t := t) (ls := ls) (rows := rows) (k := k) (l := l) (r := r) (by simpa using e1) (by simpa using e2) h
    rw [List.set_cons_succ, es_cons, es_cons, List.count_append, List.count_append, this]; omega
theorem tot_set {t : Int} : ∀ {rows : List (List Int)} {k : Nat} {r : List Int}, rows[k]? = some r → tot (rows.set k (r ++ [t])) = tot rows + 1
  | [], _, _, e => by simp at e
  | b :: rows, 0, r, e => by
    have e : b = r := by simpa using e
    subst e
    rw [List.set_cons_zero]
    show ((b ++ [t]).length + (rows.map List.length).sum) = (b.length + (rows.map List.length).sum) + 1
    rw [List.length_append, List.length_singleton]; omega
  | b :: rows, k + 1, r, e => by
    have := tot_set (t := t) (rows := rows) (k := k) (r := r) (by simpa using e)
    rw [List.set_cons_succ]
    unfold tot at this ⊢
    rw [List.map_cons, List.map_cons, List.sum_cons, List.sum_cons, this]; omega
/-- rows so far -/
structure RowsOk (tm : List Int) (ls : List Lt) (rows : List (List Int)) : Prop where
  len : rows.length = ls.length
  one : ∀ (k : Nat) (l : Lt) (r : List Int), ls[k]? = some l → rows[k]? = some r → r.length ≤ l.1.length ∧ EarlyOk tm l r
def wTot (ls : List Lt) : Nat := (ls.map fun l => l.1.length).sum
theorem tot_le : ∀ {ls : List Lt} {rows : List (List Int)}, rows.length = ls.length → (∀ (k : Nat) (l : Lt) (r : List Int), ls[k]? = some l → rows[k]? = some r → r.length ≤ l.1.length) → tot rows ≤ wTot ls
  | [], [], _, _ => Nat.le_refl _
  | [], _ :: _, h, _ => by simp at h
  | _ :: _, [], h, _ => by simp at h
  | l :: ls, r :: rows, h, q => by
    have h1 := q 0 l r rfl rfl
    have h2 := tot_le (ls := ls) (rows := rows) (by simpa using h) fun k l' r' e1 e2 => q (k + 1) l' r' (by simpa using e1) (by simpa using e2)
    unfold tot wTot at h2 ⊢
    rw [List.map_cons, List.map_cons, List.sum_cons, List.sum_cons]; omega
theorem early_snoc {tm : List Int} {l : Lt} {r : List Int} {t : Int} (h : EarlyOk tm l r) (e : nextAt tm l r ≤ t) : EarlyOk tm l (r ++ [t]) := fun j hj => by
  rw [List.length_append, List.length_singleton] at hj
  by_cases q : j < r.length
  · have := h j q
    rw [List.take_append_of_le_length (by omega), List.getD_eq_getElem?_getD, List.getElem?_append_left q, ← List.getD_eq_getElem?_getD]
    exact this
  · have ej : j = r.length := by omega
    subst ej
    rw [List.take_append_of_le_length (Nat.le_refl _), List.take_length, List.getD_eq_getElem?_getD, List.getElem?_append_right (Nat.le_refl _), Nat.sub_self]
    exact e
theorem RowsOk.put {tm : List Int} {ls : List Lt} {rows : List (List Int)} (R : RowsOk tm ls rows) {k : Nat} {l : Lt} {r : List Int} {t : Int} (e1 : ls[k]? = some l) (e2 : rows[k]? = some r) (h : r.length < l.1.length) (e : nextAt tm l r ≤ t) :
    RowsOk tm ls (rows.set k (r ++ [t])) := by
  refine ⟨by rw [List.length_set]; exact R.len, fun k' l' r' f1 f2 => ?_⟩
  by_cases q : k = k'
  · subst q
    rw [e1] at f1
    cases f1
    rw [List.getElem?_set_self (List.getElem?_eq_some_iff.mp e2).1] at f2
    cases f2
    exact ⟨by rw [List.length_append, List.length_singleton]; omega, early_snoc (R.one k l r e1 e2).2 e⟩
  · rw [List.getElem?_set_ne q] at f2
    exact R.one k' l' r' f1 f2
/-- no entry is later than x -/
def MaxAt (rows : List (List Int)) (x : Int) : Prop := ∀ r ∈ rows, ∀ y ∈ r, y ≤ x
theorem MaxAt.mono {rows : List (List Int)} {x y : Int} (h : MaxAt rows x) (e : x ≤ y) : MaxAt rows y := fun r hr z hz => Int.le_trans (h r hr z hz) e
theorem MaxAt.put {rows : List (List Int)} {x t : Int} (h : MaxAt rows x) (e : t ≤ x) {k : Nat} {r : List Int} (e2 : rows[k]? = some r) : MaxAt (rows.set k (r ++ [t])) x := fun r' hr y hy => by
  rcases List.mem_or_eq_of_mem_set hr with hr | rfl
  · exact h r' hr y hy
  · rcases List.mem_append.mp hy with hy | hy
    · exact h r (List.mem_of_getElem? e2) y hy
    · rw [List.mem_singleton] at hy; subst hy; exact e
theorem mem_es {x : Nat × Int} : ∀ {ls : List Lt} {rows : List (List Int)}, x ∈ es ls rows → ∃ r ∈ rows, x.2 ∈ r
  | [], _, h => by cases h
  | _ :: _, [], h => by cases h
  | l :: ls, r :: rows, h => by
    rw [es_cons] at h
    rcases List.mem_append.mp h with h | h
    · exact ⟨r, List.mem_cons_self, (List.of_mem_zip (a := x.1) (b := x.2) h).2⟩
    · obtain ⟨r', h1, h2⟩ := mem_es h
      exact ⟨r', List.mem_cons_of_mem _ h1, h2⟩
theorem count_zero {ls : List Lt} {rows : List (List Int)} {x : Int} (h : MaxAt rows x) {road : Nat} {t : Int} (e : x < t) : (es ls rows).count (road, t) = 0 := by
  rw [List.count_eq_zero]
  intro z
  obtain ⟨r, h1, h2⟩ := mem_es z
  have := h r h1 t h2
  omega
/-- where the roads stand -/
def NotFull (rm : List Int) (ls : List Lt) (rows : List (List Int)) : Prop := ∀ road t, road < rm.length → ((es ls rows).count (road, t) : Int) ≤ rm.getD road 0
/-- how far each letter has come -/
def Goes (ls : List Lt) (rows : List (List Int)) (m : Nat) (t : Int) : Prop := ∀ (k : Nat) (l : Lt) (r : List Int), ls[k]? = some l → rows[k]? = some r →
  (r.length < l.1.length → t ≤ 24 + (m : Int) + 3 * (r.length : Int)) ∧ (0 < r.length → r.getD (r.length - 1) 0 ≤ 21 + (tot rows : Int) + 3 * (r.length : Int))
/-- within a tick -/
structure Tick (tm rm : List Int) (ls : List Lt) (rows0 rows : List (List Int)) (idle t : Int) (fr : List Int) (od : List Nat) : Prop where
  R : RowsOk tm ls rows
  M : MaxAt rows t
  N : NotFull rm ls rows
  fl : fr.length = rm.length
  F : ∀ road, road < rm.length → fr.getD road 0 = rm.getD road 0 - ((es ls rows).count (road, t) : Int)
  od_ : ∀ k ∈ od, k < ls.length
  G : Goes ls rows (tot rows0) t
  P : (rows = rows0 ∧ (idle < t → ∀ (k : Nat) (l : Lt) (r : List Int), ls[k]? = some l → rows[k]? = some r → k ∉ od → r.length = l.1.length ∨ t < nextAt tm l r)) ∨ tot rows0 < tot rows
theorem tick_start {tm rm : List Int} {ls : List Lt} {rows : List (List Int)} {idle t : Int} {n : Nat} (R : RowsOk tm ls rows) (M : MaxAt rows (t - 1)) (N : NotFull rm ls rows) (G : Goes ls rows (tot rows) t) (hn : n = ls.length) : Tick tm rm ls rows rows idle t rm (List.range n) := by
  refine ⟨R, M.mono (by omega), N, rfl, fun road hr => ?_, fun k hk => by rw [← hn]; exact List.mem_range.mp hk, G, .inl ⟨rfl, fun _ k l r e1 _ nk => ?_⟩⟩
  · rw [count_zero M (by omega)]; show _ = _ - (0 : Int); omega
  · exact absurd (List.mem_range.mpr (by rw [hn]; exact (List.getElem?_eq_some_iff.mp e1).1)) nk
theorem mem_erase {od : List Nat} {i k k' : Nat} (h : od[i]? = some k) (h1 : k' ∈ od) (h2 : k' ∉ od.eraseIdx i) : k' = k := by
  obtain ⟨j, hj, e⟩ := List.mem_iff_getElem.mp h1
  by_cases q : j = i
  · subst q
    have := (List.getElem?_eq_some_iff.mp h).2
    exact e.symm.trans this
  · refine absurd ?_ h2
    rw [List.mem_eraseIdx_iff_getElem]
    exact ⟨j, hj, q, e⟩
/-- one that is not passed -/
theorem Tick.stay {tm rm : List Int} {ls : List Lt} {rows0 rows : List (List Int)} {idle t : Int} {fr : List Int} {od : List Nat} (T : Tick tm rm ls rows0 rows idle t fr od) {i k : Nat} (h : od[i]? = some k)
    (hs : rows = rows0 → idle < t → ∀ (l : Lt) (r : List Int), ls[k]? = some l → rows[k]? = some r → r.length = l.1.length ∨ t < nextAt tm l r) : Tick tm rm ls rows0 rows idle t fr (od.eraseIdx i) := by
  refine ⟨T.R, T.M, T.N, T.fl, T.F, fun k hk => T.od_ k (List.mem_of_mem_eraseIdx hk), T.G, ?_⟩
  rcases T.P with ⟨e, p⟩ | p
  · refine .inl ⟨e, fun hi k' l r e1 e2 nk => ?_⟩
    by_cases q : k' ∈ od
    · obtain rfl := mem_erase h q nk
      exact hs e hi l r e1 e2
    · exact p hi k' l r e1 e2 q
  · exact .inr p
/-- one that is passed -/
theorem Tick.pass {tm rm : List Int} {ls : List Lt} {rows0 rows : List (List Int)} {idle t : Int} {fr : List Int} {od : List Nat} (T : Tick tm rm ls rows0 rows idle t fr od) {i k : Nat}
    {l : Lt} {r : List Int} (e1 : ls[k]? = some l) (e2 : rows[k]? = some r) (h1 : r.length < l.1.length) (h2 : nextAt tm l r ≤ t) (h3 : l.1.getD r.length 0 < rm.length) (h4 : 0 < fr.getD (l.1.getD r.length 0) 0) :
    Tick tm rm ls rows0 (rows.set k (r ++ [t])) idle t (fr.set (l.1.getD r.length 0) (fr.getD (l.1.getD r.length 0) 0 - 1)) (od.eraseIdx i) := by
  refine ⟨T.R.put e1 e2 h1 h2, T.M.put (Int.le_refl _) e2, fun road x hr => ?_, by rw [List.length_set]; exact T.fl, fun road hr => ?_, fun k hk => T.od_ k (List.mem_of_mem_eraseIdx hk), fun k' l' r' f1 f2 => ?_, ?_⟩
  · rw [count_set e1 e2 h1]
    have := T.N road x hr
    by_cases q : (l.1.getD r.length 0, t) = (road, x)
    · rw [if_pos q]
      have q1 : l.1.getD r.length 0 = road := congrArg Prod.fst q
      have q2 : t = x := congrArg Prod.snd q
      subst q2
      have := T.F road hr
      rw [q1] at h4
      omega
    · rw [if_neg q]; omega
  · rw [count_set e1 e2 h1]
    have f := T.F road hr
    by_cases q : l.1.getD r.length 0 = road
    · rw [if_pos (by rw [q])]
      rw [q, List.getD_eq_getElem?_getD, List.getElem?_set_self (by rw [T.fl]; exact hr)]
      show fr.getD road 0 - 1 = _
      omega
    · rw [if_neg (fun z => q (congrArg Prod.fst z))]
      rw [List.getD_eq_getElem?_getD, List.getElem?_set_ne q, ← List.getD_eq_getElem?_getD]
      omega
  · have tm0 : tot rows0 ≤ tot rows := by
      rcases T.P with ⟨e, _⟩ | p
      · rw [e]; exact Nat.le_refl _
      · omega
    rw [tot_set e2]
    by_cases q : k = k'
    · subst q
      rw [e1] at f1
      cases f1
      rw [List.getElem?_set_self (List.getElem?_eq_some_iff.mp e2).1] at f2
      cases f2
      have g := (T.G k l r e1 e2).1 h1
      have lr : (r ++ [t]).length = r.length + 1 := by rw [List.length_append]; rfl
      have la : (r ++ [t]).getD ((r ++ [t]).length - 1) 0 = t := by
        rw [lr, Nat.add_sub_cancel, List.getD_eq_getElem?_getD, List.getElem?_append_right (Nat.le_refl _), Nat.sub_self]; rfl
      rw [la, lr]
      exact ⟨fun _ => by omega, fun _ => by omega⟩
    · rw [List.getElem?_set_ne q] at f2
      have g := T.G k' l' r' f1 f2
      exact ⟨g.1, fun z => by have := g.2 z; omega⟩
  · refine .inr ?_
    rw [tot_set e2]
    rcases T.P with ⟨e, _⟩ | p
    · rw [e]; omega
    · omega
theorem next_le {tm : List Int} {l : Lt} {r : List Int} {x : Int} (ht : ∀ y ∈ tm, y ≤ 3) (hx : ∀ y ∈ r, y ≤ x) (hc : l.2 ≤ x + 3) : nextAt tm l r ≤ x + 3 := by
  unfold nextAt
  by_cases q : r.length = 0
  · rw [if_pos q]; exact hc
  · rw [if_neg q]
    have h1 : r.getD (r.length - 1) 0 ≤ x := by
      have hl : r.length - 1 < r.length := by omega
      rw [List.getD_eq_getElem?_getD, List.getElem?_eq_getElem hl]
      exact hx _ (List.getElem_mem hl)
    have h2 : tm.getD (l.1.getD (r.length - 1) 0) 0 ≤ 3 := by
      rw [List.getD_eq_getElem?_getD]
      cases e : tm[l.1.getD (r.length - 1) 0]? with
      | none => exact (by decide : (0 : Int) ≤ 3)
      | some y => exact ht y (List.mem_of_getElem? e)
    omega
/-- behind a tick -/
theorem Tick.ends {tm rm : List Int} {ls : List Lt} {rows0 rows : List (List Int)} {idle t : Int} {fr : List Int} (T : Tick tm rm ls rows0 rows idle t fr []) (hi : idle ≤ 23) (ht : ∀ y ∈ tm, y ≤ 3) (hc : ∀ l ∈ ls, l.2 ≤ 20) : Goes ls rows (tot rows) (t + 1) := by
  intro k l r e1 e2
  have g := T.G k l r e1 e2
  refine ⟨fun hu => ?_, g.2⟩
  have g1 := g.1 hu
  rcases T.P with ⟨e, p⟩ | p
  · subst e
    by_cases q : idle < t
    · rcases p q k l r e1 e2 (by simp) with z | z
      · omega
      · by_cases z0 : 0 < r.length
        · have g2 := g.2 z0
          have tz : tm.getD (l.1.getD (r.length - 1) 0) 0 ≤ 3 := by
            rw [List.getD_eq_getElem?_getD]
            cases e : tm[l.1.getD (r.length - 1) 0]? with
            | none => exact (by decide : (0 : Int) ≤ 3)
            | some y => exact ht y (List.mem_of_getElem? e)
          unfold nextAt at z
          rw [if_neg (by omega)] at z
          omega
        · have := hc l (List.mem_of_getElem? e1)
          unfold nextAt at z
          rw [if_pos (by omega)] at z
          omega
    · omega
  · omega
theorem goes_start (ls : List Lt) (rows : List (List Int)) (h : ∀ r ∈ rows, r = []) : Goes ls rows (tot rows) 1 := fun k l r e1 e2 => by
  have := h r (List.mem_of_getElem? e2)
  subst this
  exact ⟨fun _ => by omega, fun z => absurd z (by simp)⟩
theorem goes_end {tm : List Int} {ls : List Lt} {rows : List (List Int)} (G : Goes ls rows (tot rows) 400) (R : RowsOk tm ls rows) (h : wTot ls ≤ 300) (h8 : ∀ l ∈ ls, l.1.length ≤ 8) {k : Nat} {l : Lt} {r : List Int} (e1 : ls[k]? = some l) (e2 : rows[k]? = some r) : r.length = l.1.length := by
  have := tot_le R.len fun k l r e1 e2 => (R.one k l r e1 e2).1
  have h1 := (R.one k l r e1 e2).1
  have h2 := h8 l (List.mem_of_getElem? e1)
  by_cases q : r.length < l.1.length
  · have := (G k l r e1 e2).1 q
    omega
  · omega
/-! ### letters -/
def ltD (l : Lt) : D := .tup [nD l.1, .int l.2]
def ltsD (ls : List Lt) : D := .tup (ls.map ltD)
theorem noL_lts : ∀ ls : List Lt, noLs (ls.map ltD) = true
  | [] => rfl
  | l :: ls => by
    show ((noL (nD l.1) && (true && true)) && noLs (ls.map ltD)) = true
    rw [noL_lts ls, noL_nD]; rfl
structure LsOk (rds : List D) (ls : List Lt) : Prop where
  h : ∀ l ∈ ls, 1 ≤ l.1.length ∧ l.1.length ≤ 8 ∧ (∀ j ∈ l.1, j < rds.length) ∧ wayOk rds l.1 ∧ 1 ≤ l.2 ∧ l.2 ≤ 1000000
section
variable {P : Program} {w : World} {K : PySem.W.Frag} {mg : Str → Option Value} {base : Heap}
def spLetters : Sp := fun vs H Q _ => ∃ (h c : Addr) (v : V) (n : Int) (rds : List D) (m : Nat) (sp : Int), vs = [.ref h, v, .int (m : Nat), .int sp] ∧ HandAt H h c ∧ WebL H h v n rds ∧ m ≤ 60 ∧ 1 ≤ sp ∧ sp ≤ 1000 ∧
  ∀ v' ls H', HandAt H' h c → But h H H' → Rp H' h v' (ltsD ls) → ls.length = m → LsOk rds ls → (∀ l ∈ ls, l.1.length ≤ 5 ∧ l.2 ≤ sp) → Q v' H'
theorem ok__law_letters (T : Tx K mg) : FnOk P w K mg base CX0 3 T._law_letters.f T._law_letters.fd ["_law_hand_here", "_law_web_here", "_law_many", "_law_span"] spLetters := by
  refine T._law_letters.F.ok sc_law_letters (fun vs H Q E h => ?_) (fun cdv A outer s H vs Q E hr h => ?_)
  · obtain ⟨_, _, _, _, _, _, _, rfl, _⟩ := h
    rfl
  · obtain ⟨h, c, v, n, rds, m, sp, rfl, hA, W, hm, s0, s1, k⟩ := h
    refine ⟨_, (pss_one (ps_ret (pe_callTy call_tuple_of (by rfl) T.n_tuple (by decide +kernel) (pa_cons (pe_lc (own := [("_law_letter", 4)]) (g := (gName 4)) (tt := tYes) rfl sc_law_letters.nd (pi_range1 (by rfl) T.n_range (pa_cons (pv 2) pa_nil)) (blkOk_by (own := [("_law_letter", 4)]) (N := ["_law_hand_here", "_law_web_here", "_law_many", "_law_span", "_law_letter"]) (sc := defScope s_law_letters) (by decide +kernel)) (fun _ _ _ _ _ => (pg_name (i := 4) sc_law_letters.nd rfl (Or.inl rfl))) (fun _ _ _ _ _ => pts_nil) (fun _ _ _ _ _ => (by exact (pe_tup (pa_cons (pe_call (ok__law_way T) (hr.mono (by decide)) rfl T._law_way.g T._law_way.F.kp T._law_way.b .nil pass0 (pa_cons (pv 0) (pa_cons (pv 1) (pa_cons pe_int pa_nil)))) (pa_cons (pe_op op_add pe_int (pe_call (ok__law_draw T) (hr.mono (by decide)) rfl T._law_draw.g T._law_draw.F.kp T._law_draw.b .nil pass0 (pa_cons (pv 0) (pa_cons (pv 3) pa_nil)))) pa_nil)))))) pa_nil)))), ?_⟩
    refine ⟨_, rfl, (m : Int), rfl, by omega, by omega, fun D1 hD1 => ?_⟩
    obtain ⟨d1, d2⟩ := hA.ne hD1
    refine lc_range (lo := 0) (n := (m : Int).toNat) (fun i H' => ∃ (xs : List V) (ls : List Lt), HandAt H' h c ∧ But h H H' ∧ H' D1 = some (.lst xs) ∧ RpA H' h xs (ls.map ltD) ∧ ls.length = i ∧ LsOk rds ls ∧ ∀ l ∈ ls, l.1.length ≤ 5 ∧ l.2 ≤ sp)
      ⟨[], [], hA.upd d1 d2, (But.refl h H).upd hD1, upd_same, .nil, rfl, ⟨fun _ z => nomatch z⟩, fun _ z => nomatch z⟩ ?_ ?_
    · rintro i H1 hi ⟨xs, ls, hA1, b1, e1, r1, l1, o1, o2⟩
      refine ⟨rfl, tyes ⟨_, rfl, _, rfl, h, c, v, n, rds, 5, rfl, hA1, W.but b1 hA, by decide, by decide, fun v2 ns H2 hA2 b2 r2 n1 n2 n3 n4 => ?_⟩⟩
      refine ⟨_, rfl, _, rfl, h, c, sp, rfl, hA2, by omega, by omega, fun y H3 y0 y1 hA3 b3 => ⟨_, _, rfl, rfl, by show 2 ≤ sizeLine; decide, fun q hq => ?_⟩⟩
      have s4 : Same H3 (upd H3 q (.tup [v2, .int (1 + y)])) := same_upd hq
      have e3 := b3 _ _ (b2 _ _ e1 d1) d1
      have e4 := s4 _ _ e3
      have lx := r1.len
      have lm : (ls.map ltD).length = i := by rw [List.length_map]; exact l1
      refine ⟨xs, e4, line_lt (by omega), xs ++ [.ref q], ls ++ [(ns, 1 + y)], (hA3.mono s4).upd d1 d2, (b1.trans (b2.trans (b3.trans (But.of s4)))).upd hD1, upd_same, ?_, by rw [List.length_append, l1]; rfl, ⟨fun l hl => ?_⟩, fun l hl => ?_⟩
      · rw [List.map_append]
        have ra := ((r1.nl (b2.nl hA1.lst) (noL_lts ls)).nl (b3.nl hA2.lst) (noL_lts ls)).nl (NL.of s4) (noL_lts ls)
        have rb : Rp (upd H3 q (.tup [v2, .int (1 + y)])) h (.ref q) (ltD (ns, 1 + y)) := .tup upd_same (by simp) (.cons ((r2.nl (b3.nl hA2.lst) (noL_nD ns)).nl (NL.of s4) (noL_nD ns)) (.cons (.int _) .nil))
        have rc := ra.app (.cons rb .nil)
        refine rc.nl (NL.upd e4) ?_
        have := noL_lts (ls ++ [(ns, 1 + y)])
        rwa [List.map_append] at this
      · rcases List.mem_append.mp hl with hl | hl
        · exact o1.h l hl
        · rw [List.mem_singleton] at hl; subst hl
          exact ⟨n1, by show ns.length ≤ 8; omega, n3, n4, by show 1 ≤ 1 + y; omega, by show 1 + y ≤ 1000000; omega⟩
      · rcases List.mem_append.mp hl with hl | hl
        · exact o2 l hl
        · rw [List.mem_singleton] at hl; subst hl
          exact ⟨by show ns.length ≤ 5; omega, by show 1 + y ≤ sp; omega⟩
    · rintro H1 ⟨xs, ls, hA1, b1, e1, r1, l1, o1, o2⟩
      refine ⟨_, _, rfl, .inl ⟨SqL.of e1, fun q hq => ?_⟩⟩
      have s4 : Same H1 (upd H1 q (.tup xs)) := same_upd hq
      have lx := r1.len
      rw [List.length_map] at lx
      exact k (.ref q) ls _ (hA1.mono s4) (b1.trans (But.of s4)) (.tup upd_same (by omega) (r1.nl (NL.of s4) (noL_lts ls))) (by omega) o1 o2
end
end Hc


set_option Elab.async false
set_option linter.all false
set_option maxRecDepth 100000
set_option maxHeartbeats 1000000
set_option autoImplicit false
namespace Hc
open PySem L2
/-- [x for x in l if p(x)], l numbers -/
theorem lc_fl {K : PySem.W.Frag} {H0 : Hp} {b D : Addr} {ns : List Nat} {j : Nat} {te : TE} {tt : TT} {σ : St} {vs : List Nat} {Qd : Hp → Prop} (p : Nat → Bool)
    (eb : H0 b = some (.lst (ns.map fun j => V.int (j : Nat)))) (hz : ns.length ≤ 1000) (hD : H0 D = none)
    (hw : ∀ x, wipe ((wipe σ vs).set j (some x)) vs = wipe σ vs)
    (ht : ∀ r ∈ ns, ∀ H' (Q : Bool → Hp → Prop), Same H0 H' → Q (p r) H' → tt ((wipe σ vs).set j (some (.int (r : Nat)))) H' Q)
    (he : ∀ r ∈ ns, ∀ H' (Q : VK), Q (.int (r : Nat)) H' → te ((wipe σ vs).set j (some (.int (r : Nat)))) H' Q)
    (hd : ∀ H', Same H0 H' → H' D = some (.lst ((ns.filter p).map fun j => V.int (j : Nat))) → Qd H') :
    ∃ W : Nat → Nat → Hp → Prop, (∃ m, W 0 m (upd H0 D (.lst []))) ∧ ∀ i m H, W i m H →
      ((Itl K b).stop i H ∧ Qd H) ∨ ((Itl K b).go i H ∧ ∃ Nx : Hp → Prop, (∀ H', Nx H' → ∃ m', m' < m ∧ W (i + 1) m' H') ∧ ∀ x H', (Itl K b).yld i H x H' → (gName j) x (wipe σ vs) H' fun σ2 H2 => wipe σ2 vs = wipe σ vs ∧ tt σ2 H2 fun b H3 =>
        if b = true then te σ2 H3 fun y H4 => ∃ acc, H4 D = some (.lst acc) ∧ acc.length < sizeLine ∧ Nx (upd H4 D (.lst (acc ++ [y]))) else Nx H3) := by
  refine lc_list (K := K) (xs := ns.map fun j => V.int (j : Nat)) (fun i H' => Same H0 H' ∧ H' D = some (.lst (((ns.take i).filter p).map fun j => V.int (j : Nat))))
    ⟨same_upd hD, upd_same⟩ (fun i H' hi ⟨s, _⟩ => SqL.of (s _ _ eb)) ?_ ?_
  · intro i x H' hx ⟨s, hH⟩
    have hi : i < ns.length := by
      have := (List.getElem?_eq_some_iff.mp hx).1
      rwa [List.length_map] at this
    have ex : x = .int (ns[i] : Nat) := by
      rw [List.getElem?_map, List.getElem?_eq_getElem hi] at hx
      exact (Option.some.inj hx).symm
    subst ex
    have hm : ns[i] ∈ ns := List.getElem_mem hi
    have tk : ns.take (i + 1) = ns.take i ++ [ns[i]] := take_more (List.getElem?_eq_getElem hi)
    have hl2 : ((ns.take i).filter p).length ≤ 1000 := by
      refine Nat.le_trans (List.length_filter_le _ _) ?_
      rw [List.length_take]; omega
    refine ⟨hw _, ht _ hm H' _ s ?_⟩
    cases hp : p ns[i] with
    | true =>
      refine iteT (he _ hm H' _ ⟨_, hH, by rw [List.length_map]; exact line_lt (by omega), fun b o q => ?_, ?_⟩)
      · rw [upd_ne (ne_of_none q hD)]
        exact s _ _ q
      · have e1 : [ns[i]].filter p = [ns[i]] := by rw [List.filter_cons, if_pos hp]; rfl
        rw [upd_same, tk, List.filter_append, List.map_append, e1]; rfl
    | false =>
      have e1 : [ns[i]].filter p = [] := by rw [List.filter_cons, if_neg (by rw [hp]; decide)]; rfl
      refine iteF ⟨s, ?_⟩
      rw [tk, List.filter_append, e1, List.append_nil]
      exact hH
  · intro H' ⟨s, hH⟩
    rw [List.length_map, List.take_length] at hH
    exact hd H' s hH
/-- [x for x in range(n) if p(x)] -/
theorem lc_fr {H0 : Hp} {D : Addr} {n : Nat} {j : Nat} {te : TE} {tt : TT} {σ : St} {vs : List Nat} {Qd : Hp → Prop} (p : Nat → Bool) (hz : n ≤ 1000) (hD : H0 D = none)
    (hw : ∀ x, wipe ((wipe σ vs).set j (some x)) vs = wipe σ vs)
    (ht : ∀ r, r < n → ∀ H' (Q : Bool → Hp → Prop), Same H0 H' → Q (p r) H' → tt ((wipe σ vs).set j (some (.int (0 + (r : Int))))) H' Q)
    (he : ∀ r, r < n → ∀ H' (Q : VK), Q (.int (0 + (r : Int))) H' → te ((wipe σ vs).set j (some (.int (0 + (r : Int))))) H' Q)
    (hd : ∀ H', Same H0 H' → H' D = some (.lst (((List.range n).filter p).map fun j => V.int (j : Nat))) → Qd H') :
    ∃ W : Nat → Nat → Hp → Prop, (∃ m, W 0 m (upd H0 D (.lst []))) ∧ ∀ i m H, W i m H →
      ((Itr 0 n).stop i H ∧ Qd H) ∨ ((Itr 0 n).go i H ∧ ∃ Nx : Hp → Prop, (∀ H', Nx H' → ∃ m', m' < m ∧ W (i + 1) m' H') ∧ ∀ x H', (Itr 0 n).yld i H x H' → (gName j) x (wipe σ vs) H' fun σ2 H2 => wipe σ2 vs = wipe σ vs ∧ tt σ2 H2 fun b H3 =>
        if b = true then te σ2 H3 fun y H4 => ∃ acc, H4 D = some (.lst acc) ∧ acc.length < sizeLine ∧ Nx (upd H4 D (.lst (acc ++ [y]))) else Nx H3) := by
  refine lc_range (lo := 0) (n := n) (fun i H' => Same H0 H' ∧ H' D = some (.lst (((List.range i).filter p).map fun j => V.int (j : Nat))))
    ⟨same_upd hD, upd_same⟩ ?_ ?_
  · intro i H' hi ⟨s, hH⟩
    have hl2 : ((List.range i).filter p).length ≤ 1000 := by
      refine Nat.le_trans (List.length_filter_le _ _) ?_
      rw [List.length_range]; omega
    refine ⟨hw _, ht _ hi H' _ s ?_⟩
    cases hp : p i with
    | true =>
      refine iteT (he _ hi H' _ ⟨_, hH, by rw [List.length_map]; exact line_lt (by omega), fun b o q => ?_, ?_⟩)
      · rw [upd_ne (ne_of_none q hD)]
        exact s _ _ q
      · have e1 : [i].filter p = [i] := by rw [List.filter_cons, if_pos hp]; rfl
        rw [upd_same, List.range_succ, List.filter_append, List.map_append, e1, List.map_cons, List.map_nil, Int.zero_add]
    | false =>
      have e1 : [i].filter p = [] := by rw [List.filter_cons, if_neg (by rw [hp]; decide)]; rfl
      refine iteF ⟨s, ?_⟩
      rw [List.range_succ, List.filter_append, e1, List.append_nil]
      exact hH
  · intro H' ⟨s, hH⟩
    exact hd H' s hH
abbrev rLtS : R2 := rI0 fun i j => .bl (decide (i < j))
abbrev rLenS (K : PySem.W.Frag) : List V → Hp → VK → Prop := fun xs H Q => ∃ p ys, xs = [V.ref p] ∧ (SqL K H p ys ∨ SqT K H p ys) ∧ Q (.int ys.length) H
abbrev rTupOf (K : PySem.W.Frag) : List V → Hp → VK → Prop := fun xs H Q => ∃ p ys, xs = [V.ref p] ∧ ((SqL K H p ys ∧ ∀ l, H l = none → Q (.ref l) (upd H l (.tup ys))) ∨ (SqT K H p ys ∧ Q (.ref p) H))
theorem RpA.ints_inv {H : Hp} {h : Addr} : ∀ {ns : List Int} {xs : List V}, RpA H h xs (ns.map D.int) → xs = ns.map V.int
  | [], _, .nil => rfl
  | n :: ns, _, .cons r q => by
    cases r
    rw [RpA.ints_inv q]; rfl
theorem WebF.inv {H : Hp} {h : Addr} {v : V} {n : Int} {rds : List D} {rm tm : List Int} (x : WebF H h v n rds rm tm) : ∃ p q x3 x4, v = .ref p ∧ H p = some (.tup [.int n, .ref q, .ref x3, .ref x4]) ∧ H x3 = some (.tup (rm.map V.int)) ∧ H x4 = some (.tup (tm.map V.int)) := by
  obtain ⟨p, ys, rfl, e, _, ra⟩ := tup_inv x.r
  cases ra with
  | cons r1 ra =>
  cases ra with
  | cons r2 ra =>
  cases ra with
  | cons r3 ra =>
  cases ra with
  | cons r4 ra =>
  cases ra
  cases r1
  obtain ⟨q, _, rfl, _, _, _⟩ := tup_inv r2
  obtain ⟨a, xs, rfl, e3, _, r3'⟩ := tup_inv r3
  obtain ⟨b, ys, rfl, e4, _, r4'⟩ := tup_inv r4
  rw [r3'.ints_inv] at e3
  rw [r4'.ints_inv] at e4
  exact ⟨p, q, a, b, rfl, e, e3, e4⟩
theorem lt_inv {H : Hp} {h : Addr} {v : V} {l : Lt} (r : Rp H h v (ltD l)) : ∃ q a, v = .ref q ∧ H q = some (.tup [.ref a, .int l.2]) ∧ H a = some (.tup (l.1.map fun j => V.int (j : Nat))) := by
  obtain ⟨q, ys, rfl, e, _, ra⟩ := tup_inv r
  cases ra with
  | cons r1 ra =>
  cases ra with
  | cons r2 ra =>
  cases ra
  cases r2
  obtain ⟨a, rfl, ea, _⟩ := nD_inv r1
  exact ⟨q, a, rfl, e, ea⟩
theorem lts_at {H : Hp} {h : Addr} {v : V} {ls : List Lt} (r : Rp H h v (ltsD ls)) : ∃ q xs, v = .ref q ∧ H q = some (.tup xs) ∧ xs.length = ls.length ∧ ∀ (k : Nat) (l : Lt), ls[k]? = some l → ∃ x, xs[k]? = some x ∧ Rp H h x (ltD l) := by
  obtain ⟨q, xs, rfl, e, _, ra⟩ := tup_inv r
  have hl := ra.len
  rw [List.length_map] at hl
  refine ⟨q, xs, rfl, e, hl, fun k l hk => ?_⟩
  have hk' : k < xs.length := by rw [hl]; exact (List.getElem?_eq_some_iff.mp hk).1
  obtain ⟨d, h1, h2⟩ := ra.get (List.getElem?_eq_getElem hk')
  rw [List.getElem?_map, hk] at h1
  cases h1
  exact ⟨_, List.getElem?_eq_getElem hk', h2⟩
theorem int_at (ns : List Int) {j : Nat} (h : j < ns.length) : (ns.map V.int)[j]? = some (.int (ns.getD j 0)) := by
  rw [List.getElem?_map, List.getElem?_eq_getElem h, List.getD_eq_getElem?_getD, List.getElem?_eq_getElem h]; rfl
theorem nat_at (ns : List Nat) {j : Nat} (h : j < ns.length) : (ns.map fun j => V.int (j : Nat))[j]? = some (.int (ns.getD j 0 : Nat)) := by
  rw [List.getElem?_map, List.getElem?_eq_getElem h, List.getD_eq_getElem?_getD, List.getElem?_eq_getElem h]; rfl
theorem nat_mem (ns : List Nat) {j : Nat} (h : j < ns.length) : ns.getD j 0 ∈ ns := by
  rw [List.getD_eq_getElem?_getD, List.getElem?_eq_getElem h]
  exact List.getElem_mem h
theorem last_at (ns : List Int) (h : ns.length ≠ 0) : atI (ns.map V.int) (-1) = some (.int (ns.getD (ns.length - 1) 0)) := by
  rcases List.eq_nil_or_concat ns with e | ⟨ms, y, e⟩
  · subst e; exact absurd rfl h
  · rw [List.concat_eq_append] at e
    subst e
    rw [List.map_append]
    have e2 : (ms ++ [y]).getD ((ms ++ [y]).length - 1) 0 = y := by
      rw [List.getD_eq_getElem?_getD, List.length_append, List.length_singleton, Nat.add_sub_cancel, List.getElem?_append_right (Nat.le_refl _), Nat.sub_self]; rfl
    rw [e2]
    exact atI_last _ _
section
variable {P : Program} {w : World} {K : PySem.W.Frag} {mg : Str → Option Value} {base : Heap}
def rdy (tm : List Int) (l : Lt) (r : List Int) : V := if r.length = l.1.length then .non else .int (nextAt tm l r)
def spReady : Sp := fun vs H Q _ => ∃ (h : Addr) (v vl : V) (n : Int) (rds : List D) (rm tm : List Int) (l : Lt) (b : Addr) (r : List Int), vs = [v, vl, .ref b] ∧ WebF H h v n rds rm tm ∧ Rp H h vl (ltD l) ∧ H b = some (.lst (r.map V.int)) ∧ r.length ≤ l.1.length ∧ (∀ j ∈ l.1, j < rds.length) ∧
  Q (rdy tm l r) H
theorem ok__law_ready (T : Tx K mg) : FnOk P w K mg base CX0 1 T._law_ready.f T._law_ready.fd ["_law_web_here", "_law_letter", "_law_row"] spReady := by
  refine T._law_ready.F.ok sc_law_ready (fun vs H Q E h => ?_) (fun cdv A outer s H vs Q E hr h => ?_)
  · obtain ⟨_, _, _, _, _, _, _, _, _, _, rfl, _⟩ := h
    rfl
  · obtain ⟨h, v, vl, n, rds, rm, tm, l, b, r, rfl, W, rl, e, hl, hj, k⟩ := h
    obtain ⟨p, q, x3, x4, rfl, ep, e3, e4⟩ := W.inv
    obtain ⟨ql, a, rfl, eq, ea⟩ := lt_inv rl
    refine ⟨_, (pss_cons (ps_set (i := 3) sc_law_ready.nd rfl (Or.inl rfl) (pe_callB call_len_seq (by rfl) T.n_len (by decide +kernel) (pa_cons (pv 2) pa_nil)))
      (pss_cons (ps_if (pt_cmpR op_eq (pv 3) (pe_callB call_len_seq (by rfl) T.n_len (by decide +kernel) (pa_cons (pe_ix ix_tup (pv 1) pe_int (fun _ _ => rfl)) pa_nil)) (nomark _))
      (pss_one (ps_ret pe_non))
      pss_nil)
      (pss_cons (ps_if (pt_cmpR op_eq (pv 3) pe_int (nomark _))
      (pss_one (ps_ret (pe_ix ix_tup (pv 1) pe_int (fun _ _ => rfl))))
      pss_nil)
      (pss_one (ps_ret (pe_op op_add (pe_ix ix_list (pv 2) (pe_un un_neg pe_int) (fun _ _ => rfl)) (pe_ix ix_tup (pe_ix ix_tup (pv 0) pe_int (fun _ _ => rfl)) (pe_ix ix_tup (pe_ix ix_tup (pv 1) pe_int (fun _ _ => rfl)) (pe_op op_sub (pv 3) pe_int) (fun _ _ => rfl)) (fun _ _ => rfl)))))))), ?_⟩
    refine ⟨_, rfl, b, _, rfl, .inl (SqL.of e), ?_⟩
    refine ⟨_, rfl, _, rfl, ql, _, 0, _, rfl, rfl, SqT.of eq, atI_nat (j := 0) rfl, a, _, rfl, .inr (SqT.of ea), rfl, _, rfl, ?_⟩
    rw [int_eqd, List.length_map, List.length_map]
    unfold rdy at k
    by_cases g : r.length = l.1.length
    · rw [decide_eq_true (show ((r.length : Nat) : Int) = (l.1.length : Nat) by omega)]
      rw [if_pos g] at k
      exact iteT k
    rw [decide_eq_false (show ¬ ((r.length : Nat) : Int) = (l.1.length : Nat) by omega)]
    rw [if_neg g] at k
    refine iteF ⟨_, rfl, rfl, _, rfl, ?_⟩
    rw [int_eqd]
    unfold nextAt at k
    by_cases g2 : r.length = 0
    · rw [decide_eq_true (show ((r.length : Nat) : Int) = 0 by omega)]
      rw [if_pos g2] at k
      exact iteT ⟨_, rfl, ql, _, 1, _, rfl, rfl, SqT.of eq, atI_nat (j := 1) rfl, k⟩
    · rw [decide_eq_false (show ¬ ((r.length : Nat) : Int) = 0 by omega)]
      rw [if_neg g2] at k
      have h1 : r.length - 1 < l.1.length := by omega
      have h2 := hj _ (nat_mem l.1 h1)
      refine iteF ⟨_, rfl, _, rfl, b, _, -1, _, rfl, rfl, SqL.of e, last_at r g2, _, rfl, p, _, 3, _, rfl, rfl, SqT.of ep, atI_nat (j := 3) rfl, _, rfl, ql, _, 0, _, rfl, rfl, SqT.of eq, atI_nat (j := 0) rfl, _, rfl, _, _, rfl, rfl, a, _, _, _, rfl, rfl, SqT.of ea,
        at_of (j := r.length - 1) (by omega) (nat_at l.1 h1), x4, _, _, _, rfl, rfl, SqT.of e4, atI_nat (int_at tm (by rw [W.lt]; exact h2)), _, _, rfl, rfl, k⟩
/-- the rows so far, lists in the list at RW -/
structure HS (H0 H : Hp) (h c RW : Addr) (bs : List Addr) (rows : List (List Int)) : Prop where
  hand : HandAt H h c
  but : But h H0 H
  rw : H RW = some (.lst (bs.map V.ref))
  row : ∀ (k : Nat) (b : Addr) (r : List Int), bs[k]? = some b → rows[k]? = some r → H b = some (.lst (r.map V.int))
  len : bs.length = rows.length
  nd : bs.Nodup
  f0 : H0 RW = none
  f1 : ∀ b ∈ bs, H0 b = none ∧ b ≠ RW
theorem HS.setA {H0 H : Hp} {h c RW : Addr} {bs : List Addr} {rows : List (List Int)} (x : HS H0 H h c RW bs rows) (hA : HandAt H0 h c) {D : Addr} {o : HO} (h0 : H0 D = none) (h1 : D ≠ RW) (h2 : D ∉ bs) : HS H0 (upd H D o) h c RW bs rows := by
  obtain ⟨d1, d2⟩ := hA.ne h0
  refine ⟨x.hand.upd d1 d2, x.but.upd h0, by rw [upd_ne (Ne.symm h1)]; exact x.rw, fun k b r e1 e2 => ?_, x.len, x.nd, x.f0, x.f1⟩
  have ne : b ≠ D := fun z => by subst z; exact h2 (List.mem_of_getElem? e1)
  rw [upd_ne ne]
  exact x.row k b r e1 e2
theorem HS.draw {H0 H H' : Hp} {h c RW : Addr} {bs : List Addr} {rows : List (List Int)} (x : HS H0 H h c RW bs rows) (hA0 : HandAt H0 h c) (hA : HandAt H' h c) (b : But h H H') : HS H0 H' h c RW bs rows := by
  refine ⟨hA, x.but.trans b, b _ _ x.rw (hA0.ne x.f0).1, fun k q r e1 e2 => ?_, x.len, x.nd, x.f0, x.f1⟩
  exact b _ _ (x.row k q r e1 e2) (hA0.ne (x.f1 q (List.mem_of_getElem? e1)).1).1
theorem HS.put {H0 H : Hp} {h c RW : Addr} {bs : List Addr} {rows : List (List Int)} (x : HS H0 H h c RW bs rows) (hA : HandAt H0 h c) {k : Nat} {b : Addr} {r' : List Int} (e1 : bs[k]? = some b) : HS H0 (upd H b (.lst (r'.map V.int))) h c RW bs (rows.set k r') := by
  obtain ⟨f1, f2⟩ := x.f1 b (List.mem_of_getElem? e1)
  obtain ⟨d1, d2⟩ := hA.ne f1
  refine ⟨x.hand.upd d1 d2, x.but.upd f1, by rw [upd_ne (Ne.symm f2)]; exact x.rw, fun k' q r e3 e4 => ?_, by rw [List.length_set]; exact x.len, x.nd, x.f0, x.f1⟩
  by_cases g : k = k'
  · subst g
    rw [e1] at e3
    cases e3
    have hk : k < rows.length := by rw [← x.len]; exact (List.getElem?_eq_some_iff.mp e1).1
    rw [List.getElem?_set_self hk] at e4
    cases e4
    rw [upd_same]
  · rw [List.getElem?_set_ne g] at e4
    have : q ≠ b := fun z => by
      subst z
      exact g (nd_ix x.nd e1 e3)
    rw [upd_ne this]
    exact x.row k' q r e3 e4
theorem HS.nl {H0 H : Hp} {h c RW : Addr} {bs : List Addr} {rows : List (List Int)} (x : HS H0 H h c RW bs rows) (hA : HandAt H0 h c) : NL H0 H := x.but.nl hA.lst
end
end Hc


set_option Elab.async false
set_option linter.all false
set_option maxRecDepth 100000
set_option maxHeartbeats 2000000
set_option autoImplicit false
namespace Hc
open PySem L2
theorem ixN_nat {n j : Nat} (h : j < n) : ixN n (j : Int) = some j := by
  unfold ixN
  rw [if_pos (by omega), if_pos (by omega)]; rfl
theorem seq_nat {n : Nat} {x : Int} (h0 : 0 ≤ x) (h : x < n) : seqIndex? x n = some x.toNat := by
  have q : ixN n x = some x.toNat := by
    unfold ixN
    rw [if_pos h0, if_pos h]
  exact (ixN_seq q).1
theorem map_erase (od : List Nat) (i : Nat) : (od.map fun j => V.int (j : Nat)).eraseIdx i = (od.eraseIdx i).map fun j => V.int (j : Nat) := by
  rw [List.eraseIdx_eq_take_drop_succ, List.eraseIdx_eq_take_drop_succ, List.map_append, List.map_take, List.map_drop]
/-- the hours of a day -/
structure HrOk (rm tm : List Int) (ls : List Lt) (rows : List (List Int)) : Prop where
  len : rows.length = ls.length
  one : ∀ (k : Nat) (l : Lt) (r : List Int), ls[k]? = some l → rows[k]? = some r → r.length = l.1.length ∧ EarlyOk tm l r
  full : NotFull rm ls rows
  mx : MaxAt rows 399
def rowD (r : List Int) : D := .tup (r.map D.int)
def rowsD (rows : List (List Int)) : D := .tup (rows.map rowD)
theorem noL_rows : ∀ rows : List (List Int), noLs (rows.map rowD) = true
  | [] => rfl
  | r :: rows => by
    show (noLs (r.map D.int) && noLs (rows.map rowD)) = true
    rw [noL_rows rows, noL_int]; rfl
section
variable {P : Program} {w : World} {K : PySem.W.Frag} {mg : Str → Option Value} {base : Heap}
def spHours : Sp := fun vs H Q _ => ∃ (h c : Addr) (v vl : V) (n : Int) (rds : List D) (rm tm : List Int) (ls : List Lt), vs = [.ref h, v, vl] ∧ HandAt H h c ∧ WebF H h v n rds rm tm ∧ Rp H h vl (ltsD ls) ∧ LsOk rds ls ∧ wTot ls ≤ 300 ∧ (∀ l ∈ ls, l.2 ≤ 20) ∧ ls.length ≤ 60 ∧
  ∀ vh rows H', HandAt H' h c → But h H H' → Rp H' h vh (rowsD rows) → HrOk rm tm ls rows → Q vh H'
theorem ok__law_hours (T : Tx K mg) : FnOk P w K mg base CX0 2 T._law_hours.f T._law_hours.fd ["_law_hand_here", "_law_web_here", "_law_letters_here"] spHours := by
  refine T._law_hours.F.ok sc_law_hours (fun vs H Q E h => ?_) (fun cdv A outer s H vs Q E hr h => ?_)
  · obtain ⟨_, _, _, _, _, _, _, _, _, rfl, _⟩ := h
    rfl
  · obtain ⟨h, c, v, vl, n, rds, rm, tm, ls, rfl, hA, W, rl, o, t120, c20, l60, k⟩ := h
    obtain ⟨q, xs, rfl, eq, lx, at_⟩ := lts_at rl
    obtain ⟨pw, qw, x3, x4, rfl, epw, ex3, ex4⟩ := W.inv
    refine ⟨_, (pss_cons (ps_set (i := 3) sc_law_hours.nd rfl (Or.inr rfl) (by exact (pe_lc (own := [("_law_letter", 11)]) (g := (gName 11)) (tt := tYes) rfl sc_law_hours.nd (pi_tup (pv 2)) (blkOk_by (own := [("_law_letter", 11)]) (N := ["_law_hand_here", "_law_web_here", "_law_letters_here", "_law_rows", "_law_idle", "_law_tick", "_law_free", "_law_order", "_law_number_here", "_law_ready_here", "_law_road", "_law_letter", "_law_row"]) (sc := defScope s_law_hours) (by decide +kernel)) (fun _ _ _ _ _ => (pg_name (i := 11) sc_law_hours.nd rfl (Or.inl rfl))) (fun _ _ _ _ _ => pts_nil) (fun _ _ _ _ _ => (by exact (pe_lst pa_nil))))))
      (pss_cons (ps_set (i := 4) sc_law_hours.nd rfl (Or.inl rfl) (pe_op op_add pe_int (pe_call (ok__law_draw T) (hr.mono (by decide)) rfl T._law_draw.g T._law_draw.F.kp T._law_draw.b .nil pass0 (pa_cons (pv 0) (pa_cons pe_int pa_nil)))))
      (C8.pss_cut (ps_for PassesOwn.never rfl (pi_range2 (by rfl) T.n_range (pa_cons pe_int (pa_cons pe_int pa_nil))) (pg_name (i := 5) sc_law_hours.nd rfl (Or.inl rfl))
      (pss_cons (ps_set (i := 6) sc_law_hours.nd rfl (Or.inl rfl) (pe_callTy call_list_of (by rfl) T.n_list (by decide +kernel) (pa_cons (pe_ix ix_tup (pv 1) pe_int (fun _ _ => rfl)) pa_nil)))
      (pss_cons (ps_set (i := 7) sc_law_hours.nd rfl (Or.inl rfl) (pe_listRg rfl (by rfl) T.n_list (prg_1 (by rfl) T.n_range (pe_callB call_len_seq (by rfl) T.n_len (by decide +kernel) (pa_cons (pv 2) pa_nil)))))
      (C8.pss_cut (ps_while PassesOwn.never (pt_cmpR op_gt (pe_callB call_len_seq (by rfl) T.n_len (by decide +kernel) (pa_cons (pv 7) pa_nil)) pe_int (nomark _))
      (pss_cons (ps_set (i := 8) sc_law_hours.nd rfl (Or.inl rfl) (pe_bm PySem.F.plainAttrs_list PySem.F.slot_list_pop PySem.F.type_list_pop mt_popAt (pv 7) (pa_cons (pe_call (ok__law_draw T) (hr.mono (by decide)) rfl T._law_draw.g T._law_draw.F.kp T._law_draw.b .nil pass0 (pa_cons (pv 0) (pa_cons (pe_callB call_len_seq (by rfl) T.n_len (by decide +kernel) (pa_cons (pv 7) pa_nil)) pa_nil))) pa_nil)))
      (pss_cons (ps_set (i := 9) sc_law_hours.nd rfl (Or.inl rfl) (pe_call (ok__law_ready T) (hr.mono (by decide)) rfl T._law_ready.g T._law_ready.F.kp T._law_ready.b .nil pass0 (pa_cons (pv 1) (pa_cons (pe_ix ix_tup (pv 2) (pv 8) (fun _ _ => rfl)) (pa_cons (pe_ix ix_list (pv 3) (pv 8) (fun _ _ => rfl)) pa_nil)))))
      (pss_one (ps_if (PW.pt (pw_and (pt_cmpR op_notN (pv 9) pe_non (nomark _)) (pw_and1 (pt_cmpR op_le (pv 9) (pv 5) (nomark _)))))
      (pss_cons (ps_set (i := 10) sc_law_hours.nd rfl (Or.inl rfl) (pe_ix ix_tup (pe_ix ix_tup (pe_ix ix_tup (pv 2) (pv 8) (fun _ _ => rfl)) pe_int (fun _ _ => rfl)) (pe_callB call_len_seq (by rfl) T.n_len (by decide +kernel) (pa_cons (pe_ix ix_list (pv 3) (pv 8) (fun _ _ => rfl)) pa_nil)) (fun _ _ => rfl)))
      (pss_one (ps_if (PW.pt (pw_and (pt_cmpR op_gt (pe_ix ix_list (pv 6) (pv 10) (fun _ _ => rfl)) pe_int (nomark _)) (pw_and1 (PW.pt (pw_or (pt_cmpR op_gt (pv 5) (pv 4) (nomark _)) (pw_or1 (pt_cmpR op_gt (pe_call (ok__law_draw T) (hr.mono (by decide)) rfl T._law_draw.g T._law_draw.F.kp T._law_draw.b .nil pass0 (pa_cons (pv 0) (pa_cons pe_int pa_nil))) pe_int (nomark _))))))))
      (pss_cons (ps_asg (pe_op op_sub (pe_ix ix_list (pv 6) (pv 10) (fun _ _ => rfl)) pe_int) (pg_sub (pv 6) (pv 10) set_list))
      (pss_one (ps_expr (pe_bm PySem.F.plainAttrs_list PySem.F.slot_list_append PySem.F.type_list_append mt_append (pe_ix ix_list (pv 3) (pv 8) (fun _ _ => rfl)) (pa_cons (pv 5) pa_nil)))))
      pss_nil)))
      pss_nil)))))
      (pss_one (ps_if (pt_cmpR op_eq (pe_callB call_len_seq (by rfl) T.n_len (by decide +kernel) (pa_cons (pe_lc (own := [("_law_number_here", 8)]) (g := (gName 8))  (tt := (tTest (tOp rLtS (tCB (rLenS K) (tCons (tOp (rIxL K) (tVar 3) (tVar 8)) tNil)) (tCB (rLenS K) (tCons (tOp (rIxT K) (tOp (rIxT K) (tVar 2) (tVar 8)) (tC (.int 0))) tNil))))) rfl sc_law_hours.nd (pi_range1 (by rfl) T.n_range (pa_cons (pe_callB call_len_seq (by rfl) T.n_len (by decide +kernel) (pa_cons (pv 2) pa_nil)) pa_nil)) (blkOk_by (own := [("_law_number_here", 8)]) (N := ["_law_hand_here", "_law_web_here", "_law_letters_here", "_law_rows", "_law_idle", "_law_tick", "_law_free", "_law_order", "_law_number_here", "_law_ready_here", "_law_road", "_law_letter", "_law_row"]) (sc := defScope s_law_hours) (by decide +kernel)) (fun _ _ _ _ _ => (pg_name (i := 8) sc_law_hours.nd rfl (Or.inl rfl))) (fun _ _ _ _ _ => (pts_one (by exact (pt_cmpR op_lt (pe_callB call_len_seq (by rfl) T.n_len (by decide +kernel) (pa_cons (pe_ix ix_list (pv 3) (pv 8) (fun _ _ => rfl)) pa_nil)) (pe_callB call_len_seq (by rfl) T.n_len (by decide +kernel) (pa_cons (pe_ix ix_tup (pe_ix ix_tup (pv 2) (pv 8) (fun _ _ => rfl)) pe_int (fun _ _ => rfl)) pa_nil)) (nomark _))))) (fun _ _ _ _ _ => (by exact (pv 8)))) pa_nil)) pe_int (nomark _))
      (pss_one ps_break)
      pss_nil))))))
      (pss_one (ps_ret (pe_callTy call_tuple_of (by rfl) T.n_tuple (by decide +kernel) (pa_cons (pe_lc (own := [("_law_row", 12)]) (g := (gName 12)) (tt := tYes) (te := (tCB (rTupOf K) (tCons (tVar 12) tNil))) rfl sc_law_hours.nd (pi_list (pv 3)) (blkOk_by (own := [("_law_row", 12)]) (N := ["_law_hand_here", "_law_web_here", "_law_letters_here", "_law_rows", "_law_idle", "_law_tick", "_law_free", "_law_order", "_law_number_here", "_law_ready_here", "_law_road", "_law_letter", "_law_row"]) (sc := defScope s_law_hours) (by decide +kernel)) (fun _ _ _ _ _ => (pg_name (i := 12) sc_law_hours.nd rfl (Or.inl rfl))) (fun _ _ _ _ _ => pts_nil) (fun _ _ _ _ _ => (by exact (pe_callTy call_tuple_of (by rfl) T.n_tuple (by decide +kernel) (pa_cons (pv 12) pa_nil))))) pa_nil))))))), ?_⟩
    refine ⟨_, rfl, q, rfl, ⟨_, SqT.of eq⟩, fun RW hRW => ?_⟩
    refine lc_tup (K := K) (a := q) (xs := xs) (fun i H' => ∃ bs : List Addr, H' RW = some (.lst (bs.map V.ref)) ∧ bs.length = i ∧ (∀ b ∈ bs, H' b = some (.lst []) ∧ H b = none ∧ b ≠ RW) ∧ bs.Nodup ∧ Same H (fun b => if b = RW then none else H' b))
      ⟨[], upd_same, rfl, (fun _ z => (nomatch z)), List.nodup_nil, fun b o z => ?_⟩ (fun i H' hi ⟨_, _, _, _, _, s⟩ => ?_) ?_ ?_
    · have nb := ne_of_none z hRW
      show (if b = RW then none else upd H RW _ b) = _
      rw [if_neg nb, upd_ne nb]; exact z
    · have z := s _ _ eq
      simp only [if_neg (ne_of_none eq hRW)] at z
      exact SqT.of z
    · rintro i x H' hx ⟨bs, e, lb, hb, nd, s⟩
      have hi : i < xs.length := (List.getElem?_eq_some_iff.mp hx).1
      refine ⟨rfl, tyes ⟨by show 0 ≤ sizeLine; decide, fun b hbn => ?_⟩⟩
      have nbR : b ≠ RW := fun z => by subst z; rw [e] at hbn; cases hbn
      have ne : ∀ b' ∈ bs, b' ≠ b := fun b' h' z => by subst z; rw [(hb _ h').1] at hbn; cases hbn
      refine ⟨_, by rw [upd_ne nbR.symm]; exact e, by rw [List.length_map]; exact line_lt (by omega), bs ++ [b], by rw [upd_same, List.map_append]; rfl, by rw [List.length_append, lb]; rfl, fun b' h' => ?_, ?_, fun b' o z => ?_⟩
      · rcases List.mem_append.mp h' with h' | h'
        · obtain ⟨g1, g2, g3⟩ := hb b' h'
          exact ⟨by rw [upd_ne g3, upd_ne (ne b' h')]; exact g1, g2, g3⟩
        · rw [List.mem_singleton] at h'; subst h'
          refine ⟨by rw [upd_ne nbR, upd_same], ?_, nbR⟩
          cases z : H b' with
          | none => rfl
          | some o =>
            have := s _ _ z
            simp only [if_neg nbR] at this
            rw [hbn] at this; cases this
      · rw [List.nodup_append]
        refine ⟨nd, by simp, fun a ha b2 hb2 => ?_⟩
        rw [List.mem_singleton] at hb2
        subst hb2
        exact ne a ha
      · have g1 := ne_of_none z hRW
        have := s _ _ z
        simp only [if_neg g1] at this
        show (if b' = RW then none else upd (upd H' b _) RW _ b') = _
        rw [if_neg g1, upd_ne g1, upd_ne (ne_of_none this hbn)]
        exact this
    rintro H1 ⟨bs, e1, lb, hb, nd, s1⟩
    have sm1 : Same H H1 := fun b o z => by
      have := s1 b o z
      simp only [if_neg (ne_of_none z hRW)] at this
      exact this
    obtain ⟨rw1, rw2⟩ := hA.ne hRW
    have hs1 : HS H H1 h c RW bs (List.replicate ls.length []) := ⟨hA.mono sm1, But.of sm1, e1, fun k b r e2 e3 => by
      obtain ⟨_, e3⟩ := List.getElem?_eq_some_iff.mp e3
      rw [List.getElem_replicate] at e3
      subst e3
      exact (hb b (List.mem_of_getElem? e2)).1, by rw [List.length_replicate, lb, lx], nd, hRW, fun b hb' => ⟨(hb b hb').2.1, (hb b hb').2.2⟩⟩
    refine ⟨_, rfl, h, c, 20, rfl, hs1.hand, by decide, by decide, fun y H2 y0 y1 hA2 b2 => ⟨_, _, rfl, rfl, ?_⟩⟩
    have hs2 := hs1.draw hA hA2 b2
    clear hs1 e1 hb s1 sm1 H1 hA2 b2 lb
    have hidle : 4 + y ≤ 23 := by omega
    refine ⟨fun σ' H' => ∃ (o5 o6 o7 o8 o9 o10 : Option V) (rows : List (List Int)), σ' = [some (.ref h), some (.ref pw), some (.ref q), some (.ref RW), some (.int (4 + y)), o5, o6, o7, o8, o9, o10, none, none] ∧ HS H H' h c RW bs rows ∧ HrOk rm tm ls rows, ?_, ?_⟩
    · refine ⟨1, 400, rfl, ⟨by omega, by omega⟩, for_range (lo := 1) (n := ((400 : Int) - 1).toNat) (fun i σ' H' => ∃ (o5 o6 o7 o8 o9 o10 : Option V) (rows : List (List Int)), σ' = [some (.ref h), some (.ref pw), some (.ref q), some (.ref RW), some (.int (4 + y)), o5, o6, o7, o8, o9, o10, none, none] ∧ HS H H' h c RW bs rows ∧ RowsOk tm ls rows ∧ MaxAt rows i ∧ NotFull rm ls rows ∧ Goes ls rows (tot rows) (1 + (i : Int)))
        ⟨_, _, _, _, _, _, _, rfl, hs2, ?_, ?_, ?_, ?_⟩ ?_ ?_⟩
      · refine ⟨by rw [List.length_replicate], fun k l r e2 e3 => ?_⟩
        obtain ⟨_, e3⟩ := List.getElem?_eq_some_iff.mp e3
        rw [List.getElem_replicate] at e3
        subst e3
        exact ⟨Nat.zero_le _, fun j hj => absurd hj (Nat.not_lt_zero _)⟩
      · intro r hr y hy
        rw [List.eq_of_mem_replicate hr] at hy; cases hy
      · intro road t hr
        rw [count_zero (x := t - 1) (fun r hr y hy => by rw [List.eq_of_mem_replicate hr] at hy; cases hy) (by omega)]
        have := W.br (rm.getD road 0) (by rw [List.getD_eq_getElem?_getD, List.getElem?_eq_getElem hr]; exact List.getElem_mem hr)
        show (0 : Int) ≤ _
        omega
      · exact goes_start ls _ fun r hr => List.eq_of_mem_replicate hr
      · rintro i σ' H3 hi ⟨o5, o6, o7, o8, o9, o10, rows0, rfl, hs3, R0, M0, N0, G0⟩
        have W3 := W.nl (hs3.nl hA)
        have nl3 := hs3.nl hA
        obtain ⟨t, et⟩ : ∃ t, t = 1 + (i : Int) := ⟨_, rfl⟩
        rw [← et] at G0 ⊢
        refine ⟨_, rfl, pw, _, 2, _, rfl, rfl, SqT.of (nl3.tup epw), atI_nat (j := 2) rfl, x3, _, rfl, .inr (SqT.of (nl3.tup ex3)), fun F hF => ?_⟩
        have hF0 : H F = none := hs3.but.free (fun z => by subst z; obtain ⟨_, _, _, _, _, e, _⟩ := hs3.hand; rw [hF] at e; cases e) hF
        have hFR : F ≠ RW := fun z => by subst z; rw [hs3.rw] at hF; cases hF
        have hFb : F ∉ bs := fun z => by
          obtain ⟨j, hj, ej⟩ := List.mem_iff_getElem.mp z
          have hj2 : j < rows0.length := by rw [← hs3.len]; exact hj
          have := hs3.row j F _ (by rw [List.getElem?_eq_getElem hj, ej]) (List.getElem?_eq_getElem hj2)
          rw [this] at hF; cases hF
        have hs4 := hs3.setA (o := .lst (rm.map V.int)) hA hF0 hFR hFb
        have eF4 : (upd H3 F (.lst (rm.map V.int))) F = some (.lst (rm.map V.int)) := upd_same
        generalize upd H3 F (.lst (rm.map V.int)) = H4 at hs4 eF4 ⊢
        have nl4 := hs4.nl hA
        refine ⟨_, rfl, q, _, rfl, .inr (SqT.of (nl4.tup eq)), _, rfl, RgOk.of_le (by decide) (by omega) (by decide) (by omega), fun O hO => ?_⟩
        have hO0 : H O = none := hs4.but.free (fun z => by subst z; obtain ⟨_, _, _, _, _, e, _⟩ := hs4.hand; rw [hO] at e; cases e) hO
        have hOR : O ≠ RW := fun z => by subst z; rw [hs4.rw] at hO; cases hO
        have hFO : F ≠ O := fun z => by subst z; rw [eF4] at hO; cases hO
        have hOb : O ∉ bs := fun z => by
          obtain ⟨j, hj, ej⟩ := List.mem_iff_getElem.mp z
          have hj2 : j < rows0.length := by rw [← hs4.len]; exact hj
          have := hs4.row j O _ (by rw [List.getElem?_eq_getElem hj, ej]) (List.getElem?_eq_getElem hj2)
          rw [this] at hO; cases hO
        have hs5 := hs4.setA (o := .lst (rgV 0 (xs.length : Nat))) hA hO0 hOR hOb
        have eO5 : (upd H4 O (.lst (rgV 0 (xs.length : Nat)))) O = some (.lst ((List.range ls.length).map fun j => V.int (j : Nat))) := by
          rw [upd_same, lx]
          unfold rgV
          rw [show (((ls.length : Nat) : Int) - 0).toNat = ls.length by omega]
          congr 3
          funext j
          rw [Int.zero_add]
        have eF5 : (upd H4 O (.lst (rgV 0 (xs.length : Nat)))) F = some (.lst (rm.map V.int)) := by rw [upd_ne hFO]; exact eF4
        generalize upd H4 O (.lst (rgV 0 (xs.length : Nat))) = H5 at hs5 eO5 eF5 ⊢
        have T0 : Tick tm rm ls rows0 rows0 (4 + y) t rm (List.range ls.length) := tick_start R0 (M0.mono (by omega)) N0 G0 rfl
        clear hs3 hs4 hF hO eF4 nl3 nl4 W3
        refine ⟨fun σ' H' => ∃ (o8 o9 o10 : Option V) (rows : List (List Int)) (fr : List Int), σ' = [some (.ref h), some (.ref pw), some (.ref q), some (.ref RW), some (.int (4 + y)), some (.int t), some (.ref F), some (.ref O), o8, o9, o10, none, none] ∧ HS H H' h c RW bs rows ∧ Tick tm rm ls rows0 rows (4 + y) t fr [], ?_, ?_⟩
        · refine ⟨fun m σ' H' => ∃ (rows : List (List Int)) (fr : List Int) (od : List Nat) (o8 o9 o10 : Option V), m = od.length ∧ od.length ≤ 60 ∧ σ' = [some (.ref h), some (.ref pw), some (.ref q), some (.ref RW), some (.int (4 + y)), some (.int t), some (.ref F), some (.ref O), o8, o9, o10, none, none] ∧ HS H H' h c RW bs rows ∧
              H' F = some (.lst (fr.map V.int)) ∧ H' O = some (.lst (od.map fun j => V.int (j : Nat))) ∧ Tick tm rm ls rows0 rows (4 + y) t fr od, ⟨_, rows0, rm, List.range ls.length, o8, o9, o10, rfl, by rw [List.length_range]; exact l60, rfl, hs5, eF5, eO5, T0⟩, ?_⟩
          clear hs5 eF5 eO5 T0 H5
          rintro m σ' H6 ⟨rows, fr, od, o8, o9, o10, rfl, lod, rfl, hs6, eF6, eO6, TT⟩
          refine ⟨_, rfl, O, _, rfl, .inl (SqL.of eO6), _, _, rfl, rfl, _, rfl, ?_⟩
          rw [List.length_map]
          by_cases g0 : od.length = 0
          · rw [decide_eq_false (show ¬ (0 : Int) < ((od.length : Nat) : Int) by omega)]
            have := List.eq_nil_of_length_eq_zero g0
            subst this
            exact iteF ⟨_, _, _, rows, fr, rfl, hs6, TT⟩
          rw [decide_eq_true (show (0 : Int) < ((od.length : Nat) : Int) by omega)]
          refine iteT ⟨fun σ' H' => ∃ m', m' < od.length ∧ ∃ (rows : List (List Int)) (fr : List Int) (od : List Nat) (o8 o9 o10 : Option V), m' = od.length ∧ od.length ≤ 60 ∧ σ' = [some (.ref h), some (.ref pw), some (.ref q), some (.ref RW), some (.int (4 + y)), some (.int t), some (.ref F), some (.ref O), o8, o9, o10, none, none] ∧ HS H H' h c RW bs rows ∧
              H' F = some (.lst (fr.map V.int)) ∧ H' O = some (.lst (od.map fun j => V.int (j : Nat))) ∧ Tick tm rm ls rows0 rows (4 + y) t fr od, fun _ _ z => z, ?_⟩
          refine ⟨_, rfl, .inl ⟨rfl, _, SqL.of eO6⟩, _, rfl, _, rfl, O, _, rfl, .inl (SqL.of eO6), h, c, _, rfl, hs6.hand, by rw [List.length_map]; omega, by rw [List.length_map]; omega, fun x H7 x0 x1 hA7 b7 => ?_⟩
          rw [List.length_map] at x1
          have hs7 := hs6.draw hA hA7 b7
          have eF7 := b7 _ _ eF6 (hA.ne hF0).1
          have eO7 := b7 _ _ eO6 (hA.ne hO0).1
          have hx : x.toNat < od.length := by omega
          obtain ⟨kk, ekk⟩ : ∃ kk, od[x.toNat]? = some kk := ⟨_, List.getElem?_eq_getElem hx⟩
          have hkl : kk < ls.length := TT.od_ kk (List.mem_of_getElem? ekk)
          refine ⟨O, _, x, x.toNat, .int (kk : Nat), rfl, rfl, eO7, by omega, by omega, seq_nat x0 (by rw [List.length_map]; omega), by rw [List.getElem?_map, ekk]; rfl, ?_⟩
          rw [map_erase]
          have hs8 := hs7.setA (o := .lst ((od.eraseIdx x.toNat).map fun j => V.int (j : Nat))) hA hO0 hOR hOb
          have eO8 : (upd H7 O (.lst ((od.eraseIdx x.toNat).map fun j => V.int (j : Nat)))) O = some (.lst ((od.eraseIdx x.toNat).map fun j => V.int (j : Nat))) := upd_same
          have eF8 : (upd H7 O (.lst ((od.eraseIdx x.toNat).map fun j => V.int (j : Nat)))) F = some (.lst (fr.map V.int)) := by rw [upd_ne hFO]; exact eF7
          generalize upd H7 O (.lst ((od.eraseIdx x.toNat).map fun j => V.int (j : Nat))) = H8 at hs8 eO8 eF8 ⊢
          have hlt : (od.eraseIdx x.toNat).length < od.length := by rw [List.length_eraseIdx_of_lt hx]; omega
          obtain ⟨l, el⟩ : ∃ l, ls[kk]? = some l := ⟨_, List.getElem?_eq_getElem hkl⟩
          have hkr : kk < rows.length := by rw [TT.R.len]; exact hkl
          obtain ⟨r, er⟩ : ∃ r, rows[kk]? = some r := ⟨_, List.getElem?_eq_getElem hkr⟩
          have hkb : kk < bs.length := by rw [hs8.len]; exact hkr
          obtain ⟨b, eb⟩ : ∃ b, bs[kk]? = some b := ⟨_, List.getElem?_eq_getElem hkb⟩
          obtain ⟨xv, exv, rxv⟩ := at_ kk l el
          have nl8 := hs8.nl hA
          have W8 := W.nl nl8
          have rx8 : Rp H8 h xv (ltD l) := rxv.nl nl8 (by show (noL (nD l.1) && (true && true)) = true; rw [noL_nD]; rfl)
          obtain ⟨oo1, oo2, oo3, oo4, oo5, oo6⟩ := o.h l (List.mem_of_getElem? el)
          have hle := (TT.R.one kk l r el er).1
          have row8 := hs8.row kk b r eb er
          refine ⟨_, rfl, _, rfl, _, rfl, q, _, _, _, rfl, rfl, SqT.of (nl8.tup eq), atI_nat exv, _, rfl, _, rfl, RW, _, _, _, rfl, rfl, SqL.of hs8.rw, atI_nat (by rw [List.getElem?_map, eb]; rfl), h, .ref pw, xv, n, rds, rm, tm, l, b, r, rfl, W8, rx8, row8, hle, oo3, ?_⟩
          unfold rdy
          have stay : ∀ (o9 o10 : Option V) (H' : Hp), HS H H' h c RW bs rows → H' F = some (.lst (fr.map V.int)) → H' O = some (.lst ((od.eraseIdx x.toNat).map fun j => V.int (j : Nat))) →
              (rows = rows0 → 4 + y < t → r.length = l.1.length ∨ t < nextAt tm l r) → ∃ m', m' < od.length ∧ ∃ (rows : List (List Int)) (fr : List Int) (od : List Nat) (p8 p9 p10 : Option V), m' = od.length ∧ od.length ≤ 60 ∧ ([some (.ref h), some (.ref pw), some (.ref q), some (.ref RW), some (.int (4 + y)), some (.int t), some (.ref F), some (.ref O), some (.int (kk : Nat)), o9, o10, none, none] : St) = [some (.ref h), some (.ref pw), some (.ref q), some (.ref RW), some (.int (4 + y)), some (.int t), some (.ref F), some (.ref O), p8, p9, p10, none, none] ∧ HS H H' h c RW bs rows ∧
              H' F = some (.lst (fr.map V.int)) ∧ H' O = some (.lst (od.map fun j => V.int (j : Nat))) ∧ Tick tm rm ls rows0 rows (4 + y) t fr od := fun o9 o10 H' a1 a2 a3 a4 => ⟨_, hlt, rows, fr, od.eraseIdx x.toNat, _, _, _, rfl, by omega, rfl, a1, a2, a3, TT.stay ekk fun z1 z2 l' r' f1 f2 => by
            rw [el] at f1; cases f1
            rw [er] at f2; cases f2
            exact a4 z1 z2⟩
          by_cases g1 : r.length = l.1.length
          · rw [if_pos g1]
            exact ⟨_, rfl, rfl, _, rfl, iteF (iteF (stay _ _ H8 hs8 eF8 eO8 fun _ _ => .inl g1))⟩
          rw [if_neg g1]
          have hl1 : r.length < l.1.length := by omega
          refine ⟨_, rfl, rfl, _, rfl, iteT ⟨_, rfl, _, rfl, _, _, rfl, rfl, _, rfl, ?_⟩⟩
          by_cases g2 : nextAt tm l r ≤ t
          rotate_left 1
          · rw [decide_eq_false g2]
            exact iteF (stay _ _ H8 hs8 eF8 eO8 fun _ _ => .inr (by omega))
          rw [decide_eq_true g2]
          obtain ⟨ql, al, rfl, eql, eal⟩ := lt_inv rx8
          have hrd : l.1.getD r.length 0 < rm.length := by rw [W.lr]; exact oo3 _ (nat_mem l.1 hl1)
          have hfl : l.1.getD r.length 0 < fr.length := by rw [TT.fl]; exact hrd
          refine iteT ⟨_, rfl, _, rfl, q, _, _, _, rfl, rfl, SqT.of (nl8.tup eq), atI_nat exv, ql, _, 0, _, rfl, rfl, SqT.of eql, atI_nat (j := 0) rfl, _, rfl, _, rfl, RW, _, _, _, rfl, rfl, SqL.of hs8.rw, atI_nat (by rw [List.getElem?_map, eb]; rfl), b, _, rfl, .inl (SqL.of row8), al, _, _, _, rfl, rfl, SqT.of eal, at_of (j := r.length) (by rw [List.length_map]) (nat_at l.1 hl1), ?_⟩
          refine ⟨_, rfl, _, rfl, F, _, _, _, rfl, rfl, SqL.of eF8, atI_nat (int_at fr hfl), _, _, rfl, rfl, _, rfl, ?_⟩
          by_cases g3 : 0 < fr.getD (l.1.getD r.length 0) 0
          rotate_left 1
          · rw [decide_eq_false g3]
            refine iteF (iteF (stay _ _ H8 hs8 eF8 eO8 fun z1 z2 => ?_))
            have f := TT.F _ hrd
            have m1 : (es ls rows).count (l.1.getD r.length 0, t) = 0 := by
              rw [z1]
              exact count_zero M0 (by omega)
            have := W.br (rm.getD (l.1.getD r.length 0) 0) (by rw [List.getD_eq_getElem?_getD, List.getElem?_eq_getElem hrd]; exact List.getElem_mem hrd)
            rw [m1] at f
            have f : fr.getD (l.1.getD r.length 0) 0 = rm.getD (l.1.getD r.length 0) 0 - (0 : Int) := f
            omega
          rw [decide_eq_true g3]
          refine iteT ⟨_, rfl, _, rfl, _, _, rfl, rfl, _, rfl, ?_⟩
          by_cases g4 : 4 + y < t
          · rw [decide_eq_true g4]
            refine iteT ?_
            have hs9 := hs8
            have eF9 := eF8
            have eO9 := eO8
            generalize H8 = H9 at hs9 eF9 eO9 ⊢

            have hF9 : H9 F = some (.lst (fr.map V.int)) := eF9
            have row9 := hs9.row kk b r eb er
            refine ⟨_, rfl, _, rfl, F, _, _, _, rfl, rfl, SqL.of hF9, atI_nat (int_at fr hfl), _, _, rfl, rfl, _, rfl, _, rfl, F, _, _, _, rfl, rfl, hF9, ixN_nat (by rw [List.length_map]; exact hfl), ?_⟩
            have nFb : b ≠ F := fun z => by subst z; exact hFb (List.mem_of_getElem? eb)
            have eF10 : (upd H9 F (.lst ((fr.map V.int).set (l.1.getD r.length 0) (.int (fr.getD (l.1.getD r.length 0) 0 - 1))))) F = some (.lst ((fr.set (l.1.getD r.length 0) (fr.getD (l.1.getD r.length 0) 0 - 1)).map V.int)) := by rw [upd_same, List.map_set]
            have hs10 := hs9.setA (o := .lst ((fr.map V.int).set (l.1.getD r.length 0) (.int (fr.getD (l.1.getD r.length 0) 0 - 1)))) hA hF0 hFR hFb
            have eO10 : (upd H9 F (.lst ((fr.map V.int).set (l.1.getD r.length 0) (.int (fr.getD (l.1.getD r.length 0) 0 - 1))))) O = some (.lst ((od.eraseIdx x.toNat).map fun j => V.int (j : Nat))) := by rw [upd_ne hFO.symm]; exact eO9
            generalize upd H9 F (.lst ((fr.map V.int).set (l.1.getD r.length 0) (.int (fr.getD (l.1.getD r.length 0) 0 - 1)))) = H10 at eF10 hs10 eO10 ⊢
            have row10 := hs10.row kk b r eb er
            refine ⟨_, rfl, _, rfl, RW, _, _, .ref b, rfl, rfl, SqL.of hs10.rw, atI_nat (by rw [List.getElem?_map, eb]; rfl), .inl ⟨rfl, _, SqL.of row10⟩, _, rfl, b, _, _, rfl, rfl, row10, by rw [List.length_map]; exact line_lt (by omega), ?_⟩
            refine ⟨_, hlt, rows.set kk (r ++ [t]), _, od.eraseIdx x.toNat, _, _, _, rfl, by omega, rfl, ?_, ?_, ?_, TT.pass el er hl1 g2 hrd g3⟩
            · have := hs10.put (r' := r ++ [t]) hA eb
              rw [List.map_append] at this
              exact this
            · rw [upd_ne nFb.symm]; exact eF10
            · have nO : O ≠ b := fun z => by subst z; exact hOb (List.mem_of_getElem? eb)
              rw [upd_ne nO]; exact eO10
          rw [decide_eq_false g4]
          refine iteF ⟨_, rfl, h, c, 3, rfl, hs8.hand, by decide, by decide, fun z H9 z0 z1 hA9 b9 => ⟨_, _, rfl, rfl, _, rfl, ?_⟩⟩
          have hs9 := hs8.draw hA hA9 b9
          have eF9 := b9 _ _ eF8 (hA.ne hF0).1
          have eO9 := b9 _ _ eO8 (hA.ne hO0).1
          refine ite2 (fun _ => ?_) (fun _ => stay _ _ H9 hs9 eF9 eO9 fun _ z2 => absurd z2 g4)
          · skip

            have hF9 : H9 F = some (.lst (fr.map V.int)) := eF9
            have row9 := hs9.row kk b r eb er
            refine ⟨_, rfl, _, rfl, F, _, _, _, rfl, rfl, SqL.of hF9, atI_nat (int_at fr hfl), _, _, rfl, rfl, _, rfl, _, rfl, F, _, _, _, rfl, rfl, hF9, ixN_nat (by rw [List.length_map]; exact hfl), ?_⟩
            have nFb : b ≠ F := fun z => by subst z; exact hFb (List.mem_of_getElem? eb)
            have eF10 : (upd H9 F (.lst ((fr.map V.int).set (l.1.getD r.length 0) (.int (fr.getD (l.1.getD r.length 0) 0 - 1))))) F = some (.lst ((fr.set (l.1.getD r.length 0) (fr.getD (l.1.getD r.length 0) 0 - 1)).map V.int)) := by rw [upd_same, List.map_set]
            have hs10 := hs9.setA (o := .lst ((fr.map V.int).set (l.1.getD r.length 0) (.int (fr.getD (l.1.getD r.length 0) 0 - 1)))) hA hF0 hFR hFb
            have eO10 : (upd H9 F (.lst ((fr.map V.int).set (l.1.getD r.length 0) (.int (fr.getD (l.1.getD r.length 0) 0 - 1))))) O = some (.lst ((od.eraseIdx x.toNat).map fun j => V.int (j : Nat))) := by rw [upd_ne hFO.symm]; exact eO9
            generalize upd H9 F (.lst ((fr.map V.int).set (l.1.getD r.length 0) (.int (fr.getD (l.1.getD r.length 0) 0 - 1)))) = H10 at eF10 hs10 eO10 ⊢
            have row10 := hs10.row kk b r eb er
            refine ⟨_, rfl, _, rfl, RW, _, _, .ref b, rfl, rfl, SqL.of hs10.rw, atI_nat (by rw [List.getElem?_map, eb]; rfl), .inl ⟨rfl, _, SqL.of row10⟩, _, rfl, b, _, _, rfl, rfl, row10, by rw [List.length_map]; exact line_lt (by omega), ?_⟩
            refine ⟨_, hlt, rows.set kk (r ++ [t]), _, od.eraseIdx x.toNat, _, _, _, rfl, by omega, rfl, ?_, ?_, ?_, TT.pass el er hl1 g2 hrd g3⟩
            · have := hs10.put (r' := r ++ [t]) hA eb
              rw [List.map_append] at this
              exact this
            · rw [upd_ne nFb.symm]; exact eF10
            · have nO : O ≠ b := fun z => by subst z; exact hOb (List.mem_of_getElem? eb)
              rw [upd_ne nO]; exact eO10
        clear hs5 eF5 eO5 T0 H5
        rintro σ' H6 ⟨o8, o9, o10, rows, fr, rfl, hs6, TT⟩
        have nl6 := hs6.nl hA
        refine ⟨_, rfl, q, _, rfl, .inr (SqT.of (nl6.tup eq)), (xs.length : Int), rfl, by omega, by omega, fun D1 hD1 => ?_⟩
        have hn : (xs.length : Int).toNat = ls.length := by omega
        refine lc_fr (j := 8) (n := (xs.length : Int).toNat) (fun kk => decide (((rows.getD kk []).length : Nat) < (ls.getD kk ([], 0)).1.length)) (by omega) hD1 ?_ ?_ ?_ ?_
        · exact fun x => rfl
        · intro kk hkk H' Q' s' kq
          have hkl : kk < ls.length := by omega
          obtain ⟨l, el⟩ : ∃ l, ls[kk]? = some l := ⟨_, List.getElem?_eq_getElem hkl⟩
          have hkr : kk < rows.length := by rw [TT.R.len]; exact hkl
          obtain ⟨r, er⟩ : ∃ r, rows[kk]? = some r := ⟨_, List.getElem?_eq_getElem hkr⟩
          have hkb : kk < bs.length := by rw [hs6.len]; exact hkr
          obtain ⟨b, eb⟩ : ∃ b, bs[kk]? = some b := ⟨_, List.getElem?_eq_getElem hkb⟩
          obtain ⟨xv, exv, rxv⟩ := at_ kk l el
          have rx8 : Rp H' h xv (ltD l) := (rxv.nl nl6 (by show (noL (nD l.1) && (true && true)) = true; rw [noL_nD]; rfl)).same s'
          obtain ⟨ql, al, rfl, eql, eal⟩ := lt_inv rx8
          refine ⟨_, rfl, _, rfl, RW, _, _, _, rfl, rfl, SqL.of (s' _ _ hs6.rw), at_of (j := kk) (by omega) (by rw [List.getElem?_map, eb]; rfl), b, _, rfl, .inl (SqL.of (s' _ _ (hs6.row kk b r eb er))), _, rfl, _, rfl, q, _, _, _, rfl, rfl, SqT.of (s' _ _ (nl6.tup eq)), at_of (j := kk) (by omega) exv, ql, _, 0, _, rfl, rfl, SqT.of eql, atI_nat (j := 0) rfl, al, _, rfl, .inr (SqT.of eal), _, _, rfl, rfl, _, rfl, ?_⟩
          rw [List.length_map, List.length_map]
          have g1 : rows.getD kk [] = r := by rw [List.getD_eq_getElem?_getD, er]; rfl
          have g2 : ls.getD kk ([], 0) = l := by rw [List.getD_eq_getElem?_getD, el]; rfl
          rw [g1, g2] at kq
          by_cases g : r.length < l.1.length
          · rw [decide_eq_true g] at kq
            rw [decide_eq_true (show ((r.length : Nat) : Int) < (l.1.length : Nat) by omega)]
            exact kq
          · rw [decide_eq_false g] at kq
            rw [decide_eq_false (show ¬ ((r.length : Nat) : Int) < (l.1.length : Nat) by omega)]
            exact kq
        · exact fun kk hkk H' Q' kq => ⟨_, rfl, kq⟩
        intro H7 s7 hD7
        rw [hn] at hD7
        obtain ⟨N, eN⟩ : ∃ N, N = (List.range ls.length).filter fun kk => decide (((rows.getD kk []).length : Nat) < (ls.getD kk ([], 0)).1.length) := ⟨_, rfl⟩
        rw [← eN] at hD7
        have hs7 : HS H H7 h c RW bs rows := ⟨hs6.hand.mono s7, hs6.but.trans (But.of s7), s7 _ _ hs6.rw, fun k b r e2 e3 => s7 _ _ (hs6.row k b r e2 e3), hs6.len, hs6.nd, hs6.f0, hs6.f1⟩
        refine ⟨D1, _, rfl, .inl (SqL.of hD7), rfl, _, rfl, ?_⟩
        rw [int_eqd, List.length_map]
        by_cases g : N.length = 0
        · rw [decide_eq_true (show ((N.length : Nat) : Int) = 0 by omega)]
          refine iteT ⟨_, _, _, _, _, _, rows, rfl, hs7, ⟨TT.R.len, fun kk l r el er => ⟨?_, (TT.R.one kk l r el er).2⟩, TT.N, TT.M.mono (by omega)⟩⟩
          have h1 := (TT.R.one kk l r el er).1
          refine Classical.byContradiction fun z => ?_
          have g1 : rows.getD kk [] = r := by rw [List.getD_eq_getElem?_getD, er]; rfl
          have g2 : ls.getD kk ([], 0) = l := by rw [List.getD_eq_getElem?_getD, el]; rfl
          have : kk ∈ N := by
            rw [eN, List.mem_filter, List.mem_range, g1, g2]
            exact ⟨(List.getElem?_eq_some_iff.mp el).1, decide_eq_true (by omega)⟩
          rw [List.eq_nil_of_length_eq_zero g] at this
          cases this
        · rw [decide_eq_false (show ¬ ((N.length : Nat) : Int) = 0 by omega)]
          obtain ⟨kk, hkk⟩ : ∃ kk, kk ∈ N := ⟨_, List.getElem_mem (show 0 < N.length by omega)⟩
          rw [eN, List.mem_filter, List.mem_range] at hkk
          obtain ⟨hkl, hkz⟩ := hkk
          have hkz := of_decide_eq_true hkz
          obtain ⟨l, el⟩ : ∃ l, ls[kk]? = some l := ⟨_, List.getElem?_eq_getElem hkl⟩
          have hkr : kk < rows.length := by rw [TT.R.len]; exact hkl
          obtain ⟨r, er⟩ : ∃ r, rows[kk]? = some r := ⟨_, List.getElem?_eq_getElem hkr⟩
          have g1 : rows.getD kk [] = r := by rw [List.getD_eq_getElem?_getD, er]; rfl
          have g2 : ls.getD kk ([], 0) = l := by rw [List.getD_eq_getElem?_getD, el]; rfl
          rw [g1, g2] at hkz
          have G1 := TT.ends hidle (fun x hx => (W.bt x hx).2) c20
          refine iteF ⟨_, _, _, _, _, _, rows, rfl, hs7, TT.R, TT.M.mono (by omega), TT.N, ?_⟩
          rw [show (1 : Int) + ((i + 1 : Nat) : Int) = t + 1 by omega]
          exact G1
      · rintro σ' H3 ⟨o5, o6, o7, o8, o9, o10, rows, rfl, hs3, R0, M0, N0, G0⟩
        have G0 : Goes ls rows (tot rows) 400 := G0
        exact ⟨_, _, _, _, _, _, rows, rfl, hs3, ⟨R0.len, fun kk l r el er => ⟨goes_end G0 R0 t120 (fun l hl => (o.h l hl).2.1) el er, (R0.one kk l r el er).2⟩, N0, M0.mono (by decide)⟩⟩
    clear hs2 H2
    rintro σ' H3 ⟨o5, o6, o7, o8, o9, o10, rows, rfl, hs3, ok⟩
    refine ⟨_, rfl, RW, rfl, ⟨_, SqL.of hs3.rw⟩, fun D1 hD1 => ?_⟩
    refine lc_list (K := K) (a := RW) (xs := bs.map V.ref) (fun i H' => Same H3 (fun b => if b = D1 then none else H' b) ∧ ∃ ys, H' D1 = some (.lst ys) ∧ RpA H' h ys ((rows.take i).map rowD))
      ⟨fun b o z => ?_, [], upd_same, by rw [List.take_zero]; exact .nil⟩ (fun i H' hi ⟨s, _⟩ => ?_) ?_ ?_
    · have nb := ne_of_none z hD1
      show (if b = D1 then none else upd H3 D1 _ b) = _
      rw [if_neg nb, upd_ne nb]; exact z
    · have z := s _ _ hs3.rw
      simp only [if_neg (ne_of_none hs3.rw hD1)] at z
      exact SqL.of z
    · rintro i x H' hx ⟨s, ys, hd, ra⟩
      have hi : i < bs.length := by
        have := (List.getElem?_eq_some_iff.mp hx).1
        rwa [List.length_map] at this
      have ex : x = .ref bs[i] := by
        rw [List.getElem?_map, List.getElem?_eq_getElem hi] at hx
        exact (Option.some.inj hx).symm
      subst ex
      have hir : i < rows.length := by rw [← hs3.len]; exact hi
      have e0 := hs3.row i bs[i] rows[i] (List.getElem?_eq_getElem hi) (List.getElem?_eq_getElem hir)
      have e1 := s _ _ e0
      simp only [if_neg (ne_of_none e0 hD1)] at e1
      have l60' : ys.length ≤ 60 := by
        have := ra.len
        rw [List.length_map, List.length_take] at this
        have := ok.len
        omega
      refine ⟨rfl, tyes ⟨_, rfl, bs[i], _, rfl, .inl ⟨SqL.of e1, fun l hl => ⟨ys, ?_, line_lt (by omega), fun b o z => ?_, ys ++ [.ref l], upd_same, ?_⟩⟩⟩⟩
      · have nl : l ≠ D1 := fun z => by subst z; rw [hd] at hl; cases hl
        rw [upd_ne nl.symm]; exact hd
      · have nb := ne_of_none z hD1
        have := s _ _ z
        simp only [if_neg nb] at this
        show (if b = D1 then none else upd (upd H' l _) D1 _ b) = _
        rw [if_neg nb, upd_ne nb, upd_ne (ne_of_none this hl)]
        exact this
      · have nl : l ≠ D1 := fun z => by subst z; rw [hd] at hl; cases hl
        rw [take_more (List.getElem?_eq_getElem hir), List.map_append]
        have s5 : Same H' (upd H' l (.tup (rows[i].map V.int))) := same_upd hl
        have e5 : (upd H' l (.tup (rows[i].map V.int))) D1 = some (.lst ys) := by rw [upd_ne nl.symm]; exact hd
        have hlen : rows[i].length ≤ 100000 := by
          have := ok.one i _ _ (List.getElem?_eq_getElem (by rw [← ok.len]; exact hir)) (List.getElem?_eq_getElem hir)
          have := (o.h _ (List.getElem_mem (show i < ls.length by rw [← ok.len]; exact hir))).2.1
          omega
        have rb : Rp (upd H' l (.tup (rows[i].map V.int))) h (.ref l) (rowD rows[i]) := .tup upd_same (by rw [List.length_map]; exact hlen) (RpA.ints _)
        refine ((ra.nl (NL.of s5) (noL_rows _)).app (.cons rb .nil)).nl (NL.upd e5) ?_
        have := noL_rows (rows.take i ++ [rows[i]])
        rwa [List.map_append] at this
    · rintro H4 ⟨s, ys, hd, ra⟩
      have sm : Same H3 H4 := fun b o z => by
        have := s b o z
        simp only [if_neg (ne_of_none z hD1)] at this
        exact this
      rw [List.length_map, hs3.len, List.take_length] at ra
      refine ⟨_, _, rfl, .inl ⟨SqL.of hd, fun qq hqq => ?_⟩⟩
      have s5 : Same H4 (upd H4 qq (.tup ys)) := same_upd hqq
      have := ra.len
      rw [List.length_map, ok.len] at this
      exact k (.ref qq) rows _ ((hs3.hand.mono sm).mono s5) (hs3.but.trans (But.of (sm.trans s5))) (.tup upd_same (by omega) (ra.nl (NL.of s5) (noL_rows rows))) ok
end
end Hc


set_option Elab.async false
set_option linter.all false
set_option maxRecDepth 100000
set_option maxHeartbeats 1000000
set_option autoImplicit false
namespace Hc
open PySem L2
abbrev rGtS : R2 := rI0 fun i j => .bl (decide (j < i))
theorem units1 {k : Nat} {A : Around} (r : Room (k + 1) A) : A.units + 1 < cLine := by have := r.un; omega
/-- a web's object at p, with its rooms and times -/
structure WebR (C : Addr) (H : Hp) (h p : Addr) (n : Int) (rds : List D) (rm tm : List Int) : Prop where
  ex : ∃ (dx : Addr) (v1 v2 v3 v4 : V), H p = some (.ins C dx (webF v1 v2 v3 v4)) ∧ Rp H h v2 (.tup rds) ∧ Rp H h v3 (.tup (rm.map D.int)) ∧ Rp H h v4 (.tup (tm.map D.int))
  all : rds.all (isBE n) = true
  l1 : 1 ≤ rds.length
  l2 : rds.length ≤ 24
  lr : rm.length = rds.length
  lt : tm.length = rds.length
  br : ∀ x ∈ rm, 1 ≤ x ∧ x ≤ 3
  bt : ∀ x ∈ tm, 1 ≤ x ∧ x ≤ 3
theorem WebR.nl {C : Addr} {H H' : Hp} {h p : Addr} {n : Int} {rds : List D} {rm tm : List Int} (w : WebR C H h p n rds rm tm) (k : NL H H') : WebR C H' h p n rds rm tm := by
  obtain ⟨⟨dx, v1, v2, v3, v4, e, r2, r3, r4⟩, a1, a2, a3, a4, a5, a6, a7⟩ := w
  exact ⟨⟨dx, v1, v2, v3, v4, k _ _ e (fun _ z => by cases z), r2.nl k (noL_be a1), r3.nl k (noL_int _), r4.nl k (noL_int _)⟩, a1, a2, a3, a4, a5, a6, a7⟩
theorem WebR.same {C : Addr} {H H' : Hp} {h p : Addr} {n : Int} {rds : List D} {rm tm : List Int} (w : WebR C H h p n rds rm tm) (s : Same H H') : WebR C H' h p n rds rm tm := w.nl (NL.of s)
theorem WebR.o {C : Addr} {H : Hp} {h p : Addr} {n : Int} {rds : List D} {rm tm : List Int} (w : WebR C H h p n rds rm tm) : WebO C H h p n rds := by
  obtain ⟨⟨dx, v1, v2, v3, v4, e, r2, r3, r4⟩, a1, a2, a3, _⟩ := w
  exact ⟨⟨dx, v1, v2, v3, v4, e, r2⟩, a1, a2, a3⟩
theorem wF_m (v1 v2 v3 v4 : V) : (webF v1 v2 v3 v4).lookup ("rooms" : Str) = some v3 := by
  have h2 : ¬ (("rooms" : Str) = "times") := by decide +kernel
  unfold webF
  rw [lookup_putF, if_neg h2, lookup_putF, if_pos rfl]
theorem wF_t (v1 v2 v3 v4 : V) : (webF v1 v2 v3 v4).lookup ("times" : Str) = some v4 := by
  unfold webF
  rw [lookup_putF, if_pos rfl]
def isLetter (rds : List D) : D → Bool
  | .tup [w, c] => isWay rds w && isBtw 1 1000000 c
  | _ => false
def areLetters (rds : List D) : D → Bool
  | .tup ds => decide (ds.length ≤ 60) && ds.all (isLetter rds)
  | _ => false
def areHours (ls : List Lt) : D → Bool
  | .tup ds => decide (ds.length = ls.length) && (ls.zip ds).all fun p => areInts (p.1.1.length : Nat) p.2
  | _ => false
theorem areLetters_tup (rds ds : List D) : areLetters rds (.tup ds) = (decide (ds.length ≤ 60) && ds.all (isLetter rds)) := rfl
theorem areHours_tup (ls : List Lt) (ds : List D) : areHours ls (.tup ds) = (decide (ds.length = ls.length) && (ls.zip ds).all fun p => areInts (p.1.1.length : Nat) p.2) := rfl
theorem two_of {d : D} (e : isTupN 2 d = true) : ∃ a b, d = .tup [a, b] := by
  cases d with
  | tup ds =>
    have h := of_decide_eq_true (show decide ((ds.length : Int) = 2) = true from e)
    match ds, h with
    | [a, b], _ => exact ⟨a, b, rfl⟩
    | [], h => simp at h
    | [_], h => simp at h
    | _ :: _ :: _ :: _, h => simp at h; omega
  | _ => exact Bool.noConfusion e
theorem not_two {rds : List D} {d : D} (e : isTupN 2 d = false) : isLetter rds d = false := by
  cases d with
  | tup ds =>
    have h := of_decide_eq_false (show decide ((ds.length : Int) = 2) = false from e)
    match ds, h with
    | [a, b], h => exact absurd rfl h
    | [], _ => rfl
    | [_], _ => rfl
    | _ :: _ :: _ :: _, _ => rfl
  | _ => rfl
section
variable {P : Program} {w : World} {K : PySem.W.Frag} {mg : Str → Option Value} {base : Heap}
theorem ok_is_letter (T : Tx K mg) : FnOk P w K mg base CX0 5 T.is_letter.f T.is_letter.fd ["web", "thing"] (spJudge T.Web.C isLetter) := by
  refine T.is_letter.F.ok sc_is_letter (fun vs H Q E h => ?_) (fun cdv A outer s H vs Q E hr h => ?_)
  · obtain ⟨_, p, n, rds, v, d, rfl, _⟩ := h
    rfl
  · obtain ⟨h, p, n, rds, v, d, rfl, W, r, k⟩ := h
    refine ⟨_, (pss_one (ps_ret (pe_and (pe_call (ok_is_pair T) (hr.mono (by decide)) rfl T.is_pair.g T.is_pair.F.kp T.is_pair.b .nil pass0 (pa_cons (pv 1) pa_nil)) (pe_and (pe_call (ok_is_way T) (hr.mono (by decide)) rfl T.is_way.g T.is_way.F.kp T.is_way.b .nil pass0 (pa_cons (pv 0) (pa_cons (pe_ix ix_tup (pv 1) pe_int (fun _ _ => rfl)) pa_nil))) (pe_one (pe_call (ok_is_between T) (hr.mono (by decide)) rfl T.is_between.g T.is_between.F.kp T.is_between.b .nil pass0 (pa_cons pe_int (pa_cons (pe_glob (v := .int 1000000) rfl T.c_LAST_TICK.choose_spec ⟨_, rfl⟩) (pa_cons (pe_ix ix_tup (pv 1) pe_int (fun _ _ => rfl)) pa_nil))))))))), ?_⟩
    refine ⟨_, rfl, h, v, d, rfl, r, _, rfl, ?_⟩
    cases e : isTupN 2 d with
    | false =>
      have := k H (Same.refl _)
      rw [not_two e] at this
      exact iteF this
    | true =>
      obtain ⟨a, b, rfl⟩ := two_of e
      obtain ⟨q, xs, rfl, eq, _, ra⟩ := tup_inv r
      cases ra with
      | cons r1 ra =>
      cases ra with
      | cons r2 ra =>
      cases ra
      refine iteT ⟨_, rfl, _, rfl, q, _, 0, _, rfl, rfl, SqT.of eq, atI_nat (j := 0) rfl, h, p, n, rds, _, a, rfl, W, r1, fun H1 s1 => ⟨_, rfl, ?_⟩⟩
      have el : isLetter rds (.tup [a, b]) = (isWay rds a && isBtw 1 1000000 b) := rfl
      rw [el] at k
      cases g : isWay rds a with
      | false =>
        rw [g] at k
        exact iteF (k H1 s1)
      | true =>
        rw [g] at k
        exact iteT ⟨_, rfl, q, _, 1, _, rfl, rfl, SqT.of (s1 _ _ eq), atI_nat (j := 1) rfl, h, 1, 1000000, _, b, rfl, r2.same s1, k H1 s1⟩
theorem ok_are_letters (T : Tx K mg) : FnOk P w K mg base CX0 6 T.are_letters.f T.are_letters.fd ["web", "thing"] (spJudge T.Web.C areLetters) := by
  refine T.are_letters.F.ok sc_are_letters (fun vs H Q E h => ?_) (fun cdv A outer s H vs Q E hr h => ?_)
  · obtain ⟨_, p, n, rds, v, d, rfl, _⟩ := h
    rfl
  · obtain ⟨h, p, n, rds, v, d, rfl, W, r, k⟩ := h
    refine ⟨_, (pss_one (ps_ret (pe_and (pe_callB call_isi (by rfl) T.n_isinstance (by decide +kernel) (pa_cons (pv 1) (pa_cons (pe_bltn (v := .ty "tuple") (by rfl) T.n_tuple (by decide +kernel) rfl) pa_nil))) (pe_and (pe_cmpR op_le (pe_callB call_len_seq (by rfl) T.n_len (by decide +kernel) (pa_cons (pv 1) pa_nil)) (pe_glob (v := .int 60) rfl T.c_MOST_LETTERS.choose_spec ⟨_, rfl⟩) (nomark _)) (pe_one (pe_callB (cr_all rfl) (by rfl) T.n_all (by decide +kernel) (pa_cons (pe_lc (own := [("letter", 2)]) (g := (gName 2)) (tt := tYes) rfl sc_are_letters.nd (pi_tup (pv 1)) (blkOk_by (own := [("letter", 2)]) (N := ["web", "thing", "letter"]) (sc := defScope s_are_letters) (by decide +kernel)) (fun _ _ _ _ _ => (pg_name (i := 2) sc_are_letters.nd rfl (Or.inl rfl))) (fun _ _ _ _ _ => pts_nil) (fun _ _ _ _ _ => (by exact (pe_call (ok_is_letter T) (hr.mono (by decide)) rfl T.is_letter.g T.is_letter.F.kp T.is_letter.b .nil pass0 (pa_cons (pv 0) (pa_cons (pv 2) pa_nil)))))) pa_nil))))))), ?_⟩
    refine ⟨_, rfl, _, _, _, _, _, rfl, .ty "tuple", r.ty, kit_ty (kitT d), _, rfl, ?_⟩
    cases r with
    | @tup _ xs ds e z ra =>
      refine iteT ⟨_, rfl, _, _, rfl, .inr (SqT.of e), _, _, rfl, rfl, _, rfl, ?_⟩
      rw [ra.len]
      by_cases h2 : ds.length ≤ 60
      · rw [decide_eq_true (show (ds.length : Int) ≤ 60 by omega)]
        refine iteT ⟨_, rfl, _, rfl, ⟨_, SqT.of e⟩, fun A hA => all_tup e z ra (isLetter rds) hA (fun x => rfl) (fun x d H' Q' _ sm rp q => ?_) (fun H' sm sl => ?_)⟩
        · exact ⟨_, rfl, _, rfl, h, p, n, rds, _, _, rfl, W.same sm, rp, q⟩
        · refine ⟨_, _, rfl, sl, ?_⟩
          rw [map_all]
          have := k H' sm
          rw [areLetters_tup, decide_eq_true h2] at this
          exact this
      · rw [decide_eq_false (show ¬ (ds.length : Int) ≤ 60 by omega)]
        have := k H (Same.refl _)
        rw [areLetters_tup, decide_eq_false h2] at this
        exact iteF this
    | _ => exact iteF (k H (Same.refl _))
def spAreHours : Sp := fun vs H Q _ => ∃ (h : Addr) (vl v : V) (ls : List Lt) (d : D), vs = [vl, v] ∧ Rp H h vl (ltsD ls) ∧ Rp H h v d ∧ ls.length ≤ 1000 ∧ ∀ H', Same H H' → Q (.bl (areHours ls d)) H'
theorem ok_are_hours (T : Tx K mg) : FnOk P w K mg base CX0 3 T.are_hours.f T.are_hours.fd ["letters", "thing"] spAreHours := by
  refine T.are_hours.F.ok sc_are_hours (fun vs H Q E h => ?_) (fun cdv A outer s H vs Q E hr h => ?_)
  · obtain ⟨_, _, _, _, _, rfl, _⟩ := h
    rfl
  · obtain ⟨h, vl, v, ls, d, rfl, rl, r, l1000, k⟩ := h
    obtain ⟨q, xs, rfl, eq, lx, at_⟩ := lts_at rl
    refine ⟨_, (pss_one (ps_ret (pe_and (pe_callB call_isi (by rfl) T.n_isinstance (by decide +kernel) (pa_cons (pv 1) (pa_cons (pe_bltn (v := .ty "tuple") (by rfl) T.n_tuple (by decide +kernel) rfl) pa_nil))) (pe_and (pe_cmpR op_eq (pe_callB call_len_seq (by rfl) T.n_len (by decide +kernel) (pa_cons (pv 1) pa_nil)) (pe_callB call_len_seq (by rfl) T.n_len (by decide +kernel) (pa_cons (pv 0) pa_nil)) (nomark _)) (pe_one (pe_callB (cr_all rfl) (by rfl) T.n_all (by decide +kernel) (pa_cons (pe_lc (own := [("row", 2), ("way", 3), ("_", 4)]) (g := (gTup K 2 (gCons (gTup K 2 (gCons (gName 3) (gCons (gName 4) gNil))) (gCons (gName 2) gNil)))) (tt := tYes) (te := (tCall spInts [] E0 (tCons (tCB (rLenS K) (tCons (tVar 3) tNil)) (tCons (tVar 2) tNil)))) rfl sc_are_hours.nd (RZ.pi_zipA (by rfl) T.n_zip (pa_cons (pv 0) (pa_cons (pv 1) pa_nil))) (blkOk_by (own := [("row", 2), ("way", 3), ("_", 4)]) (N := ["letters", "thing", "row", "way", "_"]) (sc := defScope s_are_hours) (by decide +kernel)) (fun _ _ _ _ _ => (pg_tup (by rfl) (pgs_cons (by exact (pg_tup (by rfl) (pgs_cons (pg_name (i := 3) sc_are_hours.nd rfl (Or.inl rfl)) (pgs_cons (pg_name (i := 4) sc_are_hours.nd rfl (Or.inl rfl)) pgs_nil)))) (pgs_cons (pg_name (i := 2) sc_are_hours.nd rfl (Or.inl rfl)) pgs_nil)))) (fun _ _ _ _ _ => pts_nil) (fun _ _ _ _ _ => (by exact (pe_call (ok_are_integers T) (hr.mono (by decide)) rfl T.are_integers.g T.are_integers.F.kp T.are_integers.b .nil pass0 (pa_cons (pe_callB call_len_seq (by rfl) T.n_len (by decide +kernel) (pa_cons (pv 3) pa_nil)) (pa_cons (pv 2) pa_nil)))))) pa_nil))))))), ?_⟩
    refine ⟨_, rfl, _, _, _, _, _, rfl, .ty "tuple", r.ty, kit_ty (kitT d), _, rfl, ?_⟩
    cases r with
    | @tup a ys ds e z ra =>
      refine iteT ⟨_, rfl, _, _, rfl, .inr (SqT.of e), _, rfl, q, _, rfl, .inr (SqT.of eq), rfl, _, rfl, ?_⟩
      have ly := ra.len
      rw [int_eqd]
      by_cases g : ds.length = ls.length
      · rw [decide_eq_true (show ((ys.length : Nat) : Int) = (xs.length : Nat) by omega)]
        refine iteT ⟨_, rfl, _, rfl, q, a, xs, ys, rfl, .inr ⟨SqT.of eq, SqT.of e, fun D hD => ?_⟩⟩
        have sm0 : ∀ {H' : Hp}, Same H (fun b => if b = D then none else H' b) → Same H H' := fun s b o q => by
          have r := s b o q
          simp only [if_neg (ne_of_none q hD)] at r
          exact r
        refine lc_zipT (xs := xs) (ys := ys) (fun i H' => Same H (fun b => if b = D then none else H' b) ∧ H' D = some (.lst ((((ls.zip ds).take i).map fun p => areInts (p.1.1.length : Nat) p.2).map V.bl)))
          ⟨fun b o z => ?_, upd_same⟩ (fun i H' ⟨s, _⟩ => ⟨SqT.of (sm0 s _ _ eq), SqT.of (sm0 s _ _ e)⟩) ?_ ?_
        · have nb := ne_of_none z hD
          show (if b = D then none else upd H D _ b) = _
          rw [if_neg nb, upd_ne nb]; exact z
        · rintro i x y TT H' hx hy ⟨s, hd⟩ hT
          have sm := sm0 s
          have hi : i < ls.length := by rw [← lx]; exact (List.getElem?_eq_some_iff.mp hx).1
          obtain ⟨l, el⟩ : ∃ l, ls[i]? = some l := ⟨_, List.getElem?_eq_getElem hi⟩
          obtain ⟨x', ex', rx⟩ := at_ i l el
          rw [hx] at ex'
          cases ex'
          obtain ⟨dy, edy, ry⟩ := ra.get hy
          obtain ⟨ql, al, rfl, eql, eal⟩ := lt_inv rx
          have s1 : Same H' (upd H' TT (.tup [.ref ql, y])) := same_upd hT
          have s2 := sm.trans s1
          have nT : D ≠ TT := fun z => by subst z; rw [hd] at hT; cases hT
          have ez : (ls.zip ds)[i]? = some (l, dy) := by rw [List.getElem?_zip_eq_some]; exact ⟨el, edy⟩
          refine ⟨TT, _, rfl, SqT.of upd_same, rfl, _, _, rfl, ⟨ql, _, rfl, SqT.of (s2 _ _ eql), rfl, _, _, rfl, _, _, rfl, rfl, _, _, rfl, rfl, rfl, tyes ⟨_, rfl, al, _, rfl, .inr (SqT.of (s2 _ _ eal)), _, rfl, h, _, y, dy, rfl, ry.same s2, fun H3 s3 => ⟨_, s3 _ _ (s1 _ _ hd), ?_, fun b o z => ?_, ?_⟩⟩⟩⟩
          · rw [List.length_map, List.length_map, List.length_take, List.length_zip]; exact line_lt (by omega)
          · have nb := ne_of_none z hD
            show (if b = D then none else upd H3 D _ b) = _
            rw [if_neg nb, upd_ne nb]
            exact s3 _ _ (s2 _ _ z)
          · rw [upd_same, take_more ez, List.map_append, List.map_append, List.length_map]; rfl
        · rintro H' ⟨s, hd⟩
          have : min xs.length ys.length = (ls.zip ds).length := by rw [List.length_zip]; omega
          rw [this, List.take_length] at hd
          refine ⟨_, _, rfl, SqL.of hd, ?_⟩
          have := k H' (sm0 s)
          rw [areHours_tup, decide_eq_true g, Bool.true_and] at this
          have em : ((ls.zip ds).map fun p => areInts (p.1.1.length : Nat) p.2).all id = (ls.zip ds).all fun p => areInts (p.1.1.length : Nat) p.2 := by rw [List.all_map]; rfl
          rw [em]
          exact this
      · rw [decide_eq_false (show ¬ ((ys.length : Nat) : Int) = (xs.length : Nat) by omega)]
        have := k H (Same.refl _)
        rw [areHours_tup, decide_eq_false g] at this
        exact iteF this
    | _ => exact iteF (k H (Same.refl _))
end
end Hc


set_option Elab.async false
set_option linter.all false
set_option maxRecDepth 100000
set_option maxHeartbeats 1000000
set_option autoImplicit false
namespace Hc
open PySem L2
theorem cut_last {xs : List V} : cutV xs none (some (-1)) = xs.take (xs.length - 1) := by
  have s1 : HT.sIx xs.length 0 none = 0 := rfl
  have s2 : HT.sIx xs.length xs.length (some (-1)) = xs.length - 1 := by
    show (if (-1 : Int) < 0 then ((-1 : Int) + (xs.length : Int)).toNat else min (-1 : Int).toNat xs.length) = _
    rw [if_pos (by decide)]; omega
  unfold cutV
  rw [s1, s2, List.drop_zero, Nat.sub_zero]
theorem slLast {K : PySem.W.Frag} {H : Hp} {a : Addr} {xs : List V} {Q : VK} (e : H a = some (.tup xs)) (k : ∀ b H', Same H H' → H' b = some (.tup (xs.take (xs.length - 1))) → Q (.ref b) H') : rSlA K (.ref a) none (some (-1)) H Q := by
  have s1 : HT.sIx xs.length 0 none = 0 := rfl
  have s2 : HT.sIx xs.length xs.length (some (-1)) = xs.length - 1 := by
    show (if (-1 : Int) < 0 then ((-1 : Int) + (xs.length : Int)).toNat else min (-1 : Int).toNat xs.length) = _
    rw [if_pos (by decide)]; omega
  refine ⟨a, xs, rfl, SqT.of e, fun hw => ?_, fun _ p hp => ?_⟩
  · have h0 : xs.length = 0 := by
      rw [s2] at hw; omega
    have : xs = [] := List.eq_nil_of_length_eq_zero h0
    subst this
    exact k a H (Same.refl H) e
  · exact k p _ (same_upd hp) (by rw [upd_same, cut_last])
/-- [f(a, b) for a, b in zip(t, l)], a tuple and a list -/
theorem lc_zipM {K : PySem.W.Frag} {a b : Addr} {xs ys : List V} {g : TG} {tt : TT} {te : TE} {vs : List Nat} {σ : St} {H1 : Hp} {D : Addr} {Qd : Hp → Prop} (Pv : Nat → Hp → Prop) (h0 : Pv 0 (upd H1 D (.lst [])))
    (hl : ∀ i H, Pv i H → SqT K H a xs ∧ SqL K H b ys)
    (hs : ∀ (i : Nat) (x y : V) (T : Addr) (H : Hp), xs[i]? = some x → ys[i]? = some y → Pv i H → H T = none → g (.ref T) (wipe σ vs) (upd H T (.tup [x, y])) fun σ2 H2 => wipe σ2 vs = wipe σ vs ∧ tt σ2 H2 fun b H3 =>
      if b = true then te σ2 H3 fun y H4 => ∃ acc, H4 D = some (.lst acc) ∧ acc.length < sizeLine ∧ Pv (i + 1) (upd H4 D (.lst (acc ++ [y]))) else Pv (i + 1) H3) (hd : ∀ H, Pv (min xs.length ys.length) H → Qd H) :
    ∃ W : Nat → Nat → Hp → Prop, (∃ m, W 0 m (upd H1 D (.lst []))) ∧ ∀ i m H, W i m H →
      ((ItzM K a b).stop i H ∧ Qd H) ∨ ((ItzM K a b).go i H ∧ ∃ Nx : Hp → Prop, (∀ H', Nx H' → ∃ m', m' < m ∧ W (i + 1) m' H') ∧ ∀ x H', (ItzM K a b).yld i H x H' → g x (wipe σ vs) H' fun σ2 H2 => wipe σ2 vs = wipe σ vs ∧ tt σ2 H2 fun b H3 =>
        if b = true then te σ2 H3 fun y H4 => ∃ acc, H4 D = some (.lst acc) ∧ acc.length < sizeLine ∧ Nx (upd H4 D (.lst (acc ++ [y]))) else Nx H3) := by
  refine ⟨fun i m H => m = min xs.length ys.length - i ∧ i ≤ min xs.length ys.length ∧ Pv i H, ⟨_, rfl, Nat.zero_le _, h0⟩, ?_⟩
  rintro i m H ⟨rfl, hi, p⟩
  obtain ⟨qx, qy⟩ := hl i H p
  by_cases hlt : i < min xs.length ys.length
  · have h1 : i < xs.length := by omega
    have h2 : i < ys.length := by omega
    refine .inr ⟨⟨xs, ys, _, _, qx, qy, List.getElem?_eq_getElem h1, List.getElem?_eq_getElem h2⟩, Pv (i + 1), fun H' p' => ⟨min xs.length ys.length - (i + 1), by omega, rfl, hlt, p'⟩, fun v H' y => ?_⟩
    obtain ⟨T, x', y', rfl, hT, rfl, f1, f2⟩ := y
    exact hs i x' y' T H (f1 xs qx) (f2 ys qy) p hT
  · have e : i = min xs.length ys.length := by omega
    subst e
    exact .inl ⟨⟨xs, ys, qx, qy, by omega, by omega, by omega⟩, hd H p⟩
/-- the first ticks of a letter -/
def firstL (tm : List Int) (l : Lt) (r : List Int) : List Int := l.2 :: (l.1.zip (r.take (r.length - 1))).map fun p => p.2 + tm.getD p.1 0
def earlyB (tm : List Int) (ls : List Lt) (rows : List (List Int)) : Bool := (ls.zip rows).any fun p => (p.2.zip (firstL tm p.1 p.2)).any fun q => decide (q.1 < q.2)
theorem mask {H H' : Hp} {D : Addr} (hD : H D = none) (s : Same H (fun b => if b = D then none else H' b)) : Same H H' := fun b o q => by
  have r := s b o q
  simp only [if_neg (ne_of_none q hD)] at r
  exact r
theorem mask_upd {H H4 : Hp} {D : Addr} {o : HO} (hD : H D = none) (s : Same H H4) : Same H (fun b => if b = D then none else upd H4 D o b) := fun b u z => by
  have nb := ne_of_none z hD
  show (if b = D then none else upd H4 D o b) = _
  rw [if_neg nb, upd_ne nb]
  exact s _ _ z
section
variable {P : Program} {w : World} {K : PySem.W.Frag} {mg : Str → Option Value} {base : Heap}
def spFirst (C : Addr) : Sp := fun vs H Q _ => ∃ (h p b : Addr) (vl : V) (n : Int) (rds : List D) (rm tm : List Int) (l : Lt) (r : List Int), vs = [.ref p, vl, .ref b] ∧ WebR C H h p n rds rm tm ∧ Rp H h vl (ltD l) ∧ H b = some (.tup (r.map V.int)) ∧ (∀ j ∈ l.1, j < rds.length) ∧ l.1.length ≤ 1000 ∧
  ∀ F H', Same H H' → H F = none → H' F = some (.lst ((firstL tm l r).map V.int)) → Q (.ref F) H'
theorem ok_first_ticks (T : Tx K mg) : FnOk P w K mg base CX0 1 T.first_ticks.f T.first_ticks.fd ["web", "letter", "row"] (spFirst T.Web.C) := by
  refine T.first_ticks.F.ok sc_first_ticks (fun vs H Q E h => ?_) (fun cdv A outer s H vs Q E hr h => ?_)
  · obtain ⟨_, _, _, _, _, _, _, _, _, _, rfl, _⟩ := h
    rfl
  · obtain ⟨h, p, b, vl, n, rds, rm, tm, l, r, rfl, W, rl, eb, hj, l1000, k⟩ := h
    obtain ⟨ql, al, rfl, eql, eal⟩ := lt_inv rl
    obtain ⟨dx, v1, v2, v3, v4, hp, _, _, r4⟩ := W.ex
    obtain ⟨pt, ts, rfl, et, _, rt⟩ := tup_inv r4
    rw [rt.ints_inv] at et
    refine ⟨_, (pss_cons (ps_asg (pv 1) (pg_tup (by rfl) (pgs_cons (pg_name (i := 3) sc_first_ticks.nd rfl (Or.inl rfl)) (pgs_cons (pg_name (i := 4) sc_first_ticks.nd rfl (Or.inl rfl)) pgs_nil))))
      (pss_one (ps_ret (pe_op op_cat (pe_lst (pa_cons (pv 4) pa_nil)) (pe_lc (own := [("road", 5), ("hour", 6)]) (g := (gTup K 2 (gCons (gName 5) (gCons (gName 6) gNil)))) (tt := tYes) (te := (tOp (rI0 fun i j => .int (i + j)) (tVar 6) (tOp (rIxT K) (tFld K (tVar 0) "times") (tVar 5)))) rfl sc_first_ticks.nd (RZ.pi_zipA (by rfl) T.n_zip (pa_cons (pv 3) (pa_cons (pe_slice sl_tupA (pv 2) po_none (po_some (pe_un un_neg pe_int))) pa_nil))) (blkOk_by (own := [("road", 5), ("hour", 6)]) (N := ["web", "letter", "row", "way", "come", "road", "hour"]) (sc := defScope s_first_ticks) (by decide +kernel)) (fun _ _ _ _ _ => (pg_tup (by rfl) (pgs_cons (pg_name (i := 5) sc_first_ticks.nd rfl (Or.inl rfl)) (pgs_cons (pg_name (i := 6) sc_first_ticks.nd rfl (Or.inl rfl)) pgs_nil)))) (fun _ _ _ _ _ => pts_nil) (fun _ _ _ _ _ => (by exact (pe_op op_add (pv 6) (pe_ix ix_tup (pe_fld (pv 0) rfl) (pv 5) (fun _ _ => rfl)))))))))), ?_⟩
    refine ⟨_, rfl, ql, _, rfl, SqT.of eql, rfl, _, _, rfl, _, _, rfl, rfl, ?_⟩
    refine ⟨_, rfl, by show 1 ≤ sizeLine; decide, fun p1 hp1 => ?_⟩
    have s1 : Same H (upd H p1 (.lst [.int l.2])) := same_upd hp1
    have e1 : (upd H p1 (.lst [.int l.2])) p1 = some (.lst [.int l.2]) := upd_same
    generalize upd H p1 (.lst [.int l.2]) = H1 at s1 e1 ⊢
    refine ⟨_, rfl, _, rfl, _, rfl, _, rfl, ?_⟩
    refine slLast (s1 _ _ eb) fun q2 H2 s2 e2 => ?_
    rw [List.length_map, ← List.map_take] at e2
    have s02 := s1.trans s2
    refine ⟨al, q2, _, _, rfl, .inr ⟨SqT.of (s02 _ _ eal), SqT.of e2, fun D hD => ?_⟩⟩
    refine lc_zipT (xs := l.1.map fun j => V.int (j : Nat)) (ys := (r.take (r.length - 1)).map V.int) (fun i H' => Same H2 (fun b => if b = D then none else H' b) ∧ H' D = some (.lst ((((l.1.zip (r.take (r.length - 1))).take i).map fun p => p.2 + tm.getD p.1 0).map V.int)))
      ⟨mask_upd hD (Same.refl _), upd_same⟩ (fun i H' ⟨s, _⟩ => ⟨SqT.of (mask hD s _ _ (s02 _ _ eal)), SqT.of (mask hD s _ _ e2)⟩) ?_ ?_
    · rintro i x y TT H' hx hy ⟨s, hd⟩ hT
      have sm := mask hD s
      have hi : i < l.1.length := by
        have := (List.getElem?_eq_some_iff.mp hx).1
        rwa [List.length_map] at this
      have hi2 : i < (r.take (r.length - 1)).length := by
        have := (List.getElem?_eq_some_iff.mp hy).1
        rwa [List.length_map] at this
      have ex : x = .int (l.1[i] : Nat) := by
        rw [List.getElem?_map, List.getElem?_eq_getElem hi] at hx
        exact (Option.some.inj hx).symm
      have ey : y = .int (r.take (r.length - 1))[i] := by
        rw [List.getElem?_map, List.getElem?_eq_getElem hi2] at hy
        exact (Option.some.inj hy).symm
      subst ex ey
      have st : Same H' (upd H' TT (.tup [.int (l.1[i] : Nat), .int (r.take (r.length - 1))[i]])) := same_upd hT
      have s3 := sm.trans st
      have s03 := s02.trans s3
      have hr' : l.1[i] < tm.length := by rw [W.lt]; exact hj _ (List.getElem_mem hi)
      have ez : (l.1.zip (r.take (r.length - 1)))[i]? = some (l.1[i], (r.take (r.length - 1))[i]) := by rw [List.getElem?_zip_eq_some]; exact ⟨List.getElem?_eq_getElem hi, List.getElem?_eq_getElem hi2⟩
      refine ⟨TT, _, rfl, SqT.of upd_same, rfl, _, _, rfl, _, _, rfl, rfl, rfl, tyes ⟨_, rfl, _, rfl, p, T.Web.C, dx, _, _, rfl, s03 _ _ hp, T.Web.cl, T.Web.no _ (by simp), wF_t _ _ _ _, _, rfl, pt, _, _, _, rfl, rfl, SqT.of (s03 _ _ et), atI_nat (int_at tm hr'), _, _, rfl, rfl, _, st _ _ hd, ?_, ?_, ?_⟩⟩
      · rw [List.length_map, List.length_map, List.length_take, List.length_zip]; exact line_lt (by omega)
      · exact mask_upd hD s3
      · rw [upd_same, take_more ez, List.map_append, List.map_append]; rfl
    · rintro H' ⟨s, hd⟩
      rw [show min (l.1.map fun j => V.int (j : Nat)).length ((r.take (r.length - 1)).map V.int).length = (l.1.zip (r.take (r.length - 1))).length by rw [List.length_map, List.length_map, List.length_zip], List.take_length] at hd
      have sm := mask hD s
      have lz := List.length_zip (l₁ := l.1) (l₂ := r.take (r.length - 1))
      refine ⟨p1, D, _, _, rfl, rfl, sm _ _ (s2 _ _ e1), hd, by rw [List.length_map, List.length_map]; exact line_le (by show 1 + _ ≤ 100000; omega), fun c hc => ?_⟩
      have sA : Same H H' := s02.trans sm
      refine k c _ (sA.trans (same_upd hc)) ?_ upd_same
      cases z : H c with
      | none => rfl
      | some o => rw [sA _ _ z] at hc; cases hc
def spEarly (C : Addr) : Sp := fun vs H Q _ => ∃ (h p b : Addr) (vl : V) (n : Int) (rds : List D) (rm tm : List Int) (ls : List Lt) (rows : List (List Int)), vs = [.ref p, vl, .ref b] ∧ WebR C H h p n rds rm tm ∧ Rp H h vl (ltsD ls) ∧ Rp H h (.ref b) (rowsD rows) ∧ LsOk rds ls ∧ rows.length = ls.length ∧
  (∀ r ∈ rows, r.length ≤ 1000) ∧ ∀ H', Same H H' → Q (.bl (earlyB tm ls rows)) H'
theorem rows_at {H : Hp} {h : Addr} {v : V} {rows : List (List Int)} (r : Rp H h v (rowsD rows)) : ∃ q xs, v = .ref q ∧ H q = some (.tup xs) ∧ xs.length = rows.length ∧ ∀ (k : Nat) (r : List Int), rows[k]? = some r → ∃ b, xs[k]? = some (.ref b) ∧ H b = some (.tup (r.map V.int)) := by
  obtain ⟨q, xs, rfl, e, _, ra⟩ := tup_inv r
  have hl := ra.len
  rw [List.length_map] at hl
  refine ⟨q, xs, rfl, e, hl, fun k r hk => ?_⟩
  have hk' : k < xs.length := by rw [hl]; exact (List.getElem?_eq_some_iff.mp hk).1
  obtain ⟨d, h1, h2⟩ := ra.get (List.getElem?_eq_getElem hk')
  rw [List.getElem?_map, hk] at h1
  cases h1
  obtain ⟨b, ys, eb, e2, _, rb⟩ := tup_inv h2
  rw [rb.ints_inv] at e2
  exact ⟨b, by rw [List.getElem?_eq_getElem hk', eb], e2⟩
theorem any_take {α : Type} {l : List α} {i : Nat} {x : α} (f : α → Bool) (h : l[i]? = some x) : (l.take (i + 1)).any f = ((l.take i).any f || f x) := by
  rw [take_more h, List.any_append, List.any_cons, List.any_nil, Bool.or_false]
theorem ok_some_early (T : Tx K mg) : FnOk P w K mg base CX0 2 T.some_early.f T.some_early.fd ["web", "letters", "hours"] (spEarly T.Web.C) := by
  refine T.some_early.F.ok sc_some_early (fun vs H Q E h => ?_) (fun cdv A outer s H vs Q E hr h => ?_)
  · obtain ⟨_, _, _, _, _, _, _, _, _, _, rfl, _⟩ := h
    rfl
  · obtain ⟨h, p, b, vl, n, rds, rm, tm, ls, rows, rfl, W, rl, rr, o, ll, r1000, k⟩ := h
    obtain ⟨q, xs, rfl, eq, lx, at_⟩ := lts_at rl
    obtain ⟨_, ys, eb, er, ly, rat⟩ := rows_at rr
    cases eb
    refine ⟨_, (pss_cons (ps_for PassesOwn.never rfl (RZ.pi_zipA (by rfl) T.n_zip (pa_cons (pv 1) (pa_cons (pv 2) pa_nil))) (pg_tup (by rfl) (pgs_cons (pg_name (i := 3) sc_some_early.nd rfl (Or.inl rfl)) (pgs_cons (pg_name (i := 4) sc_some_early.nd rfl (Or.inl rfl)) pgs_nil)))
      (pss_one (ps_if (pt_val (pe_callB (cr_any rfl) (by rfl) T.n_any (by decide +kernel) (pa_cons (pe_lc (own := [("hour", 5), ("first", 6)]) (g := (gTup K 2 (gCons (gName 5) (gCons (gName 6) gNil)))) (tt := tYes) rfl sc_some_early.nd (pi_zipM (by rfl) T.n_zip (pa_cons (pv 4) (pa_cons (pe_call (ok_first_ticks T) (hr.mono (by decide)) rfl T.first_ticks.g T.first_ticks.F.kp T.first_ticks.b .nil pass0 (pa_cons (pv 0) (pa_cons (pv 3) (pa_cons (pv 4) pa_nil)))) pa_nil))) (blkOk_by (own := [("hour", 5), ("first", 6)]) (N := ["web", "letters", "hours", "letter", "row", "hour", "first"]) (sc := defScope s_some_early) (by decide +kernel)) (fun _ _ _ _ _ => (pg_tup (by rfl) (pgs_cons (pg_name (i := 5) sc_some_early.nd rfl (Or.inl rfl)) (pgs_cons (pg_name (i := 6) sc_some_early.nd rfl (Or.inl rfl)) pgs_nil)))) (fun _ _ _ _ _ => pts_nil) (fun _ _ _ _ _ => (by exact (pe_cmpR op_lt (pv 5) (pv 6) (nomark _))))) pa_nil)))
      (pss_one (ps_ret pe_bl))
      pss_nil)))
      (pss_one (ps_ret pe_bl))), ?_⟩
    refine ⟨_, rfl, _, rfl, q, b, xs, ys, rfl, .inr ⟨SqT.of eq, SqT.of er, RZ.for_zipT (xs := xs) (ys := ys) (by omega) (fun i σ' H' => ∃ o3 o4 : Option V, σ' = [some (.ref p), some (.ref q), some (.ref b), o3, o4, none, none] ∧ Same H H' ∧ ((ls.zip rows).take i).any (fun p => (p.2.zip (firstL tm p.1 p.2)).any fun q => decide (q.1 < q.2)) = false)
      ⟨_, _, rfl, Same.refl _, rfl⟩ (fun i σ' H' ⟨_, _, _, s, _⟩ => ⟨SqT.of (s _ _ eq), SqT.of (s _ _ er)⟩) ?_ ?_⟩⟩
    · rintro i x y TT σ' H1 hx hy ⟨o3, o4, rfl, s1, hb⟩ hT
      have hi : i < ls.length := by rw [← lx]; exact (List.getElem?_eq_some_iff.mp hx).1
      obtain ⟨l, el⟩ : ∃ l, ls[i]? = some l := ⟨_, List.getElem?_eq_getElem hi⟩
      obtain ⟨r, er'⟩ : ∃ r, rows[i]? = some r := ⟨_, List.getElem?_eq_getElem (by omega)⟩
      obtain ⟨x', ex', rx⟩ := at_ i l el
      rw [hx] at ex'
      cases ex'
      obtain ⟨b2, eb2, ey⟩ := rat i r er'
      rw [hy] at eb2
      cases eb2
      have st : Same H1 (upd H1 TT (.tup [x, .ref b2])) := same_upd hT
      have s2 := s1.trans st
      have ez : (ls.zip rows)[i]? = some (l, r) := by rw [List.getElem?_zip_eq_some]; exact ⟨el, er'⟩
      obtain ⟨oo1, oo2, oo3, _⟩ := o.h l (List.mem_of_getElem? el)
      have hr1000 := r1000 r (List.mem_of_getElem? er')
      refine ⟨TT, _, rfl, SqT.of upd_same, rfl, _, _, rfl, _, _, rfl, rfl, ?_⟩
      generalize upd H1 TT (.tup [x, .ref b2]) = H2 at st s2 ⊢
      refine ⟨_, rfl, _, rfl, _, rfl, _, rfl, h, p, b2, x, n, rds, rm, tm, l, r, rfl, W.same s2, rx.same s2, s2 _ _ ey, oo3, by omega, fun F H3 s3 nF eF => ?_⟩
      have s13 := s2.trans s3
      refine ⟨b2, F, _, _, rfl, SqT.of (s13 _ _ ey), SqL.of eF, fun D hD => ?_⟩
      refine lc_zipM (xs := r.map V.int) (ys := (firstL tm l r).map V.int) (fun i H' => Same H3 (fun b => if b = D then none else H' b) ∧ H' D = some (.lst ((((r.zip (firstL tm l r)).take i).map fun q => decide (q.1 < q.2)).map V.bl)))
        ⟨mask_upd hD (Same.refl _), upd_same⟩ (fun i H' ⟨s, _⟩ => ⟨SqT.of (mask hD s _ _ (s13 _ _ ey)), SqL.of (mask hD s _ _ eF)⟩) ?_ ?_
      · rintro j x y TT' H' hx hy ⟨s, hd⟩ hT'
        have sm := mask hD s
        have hi1 : j < r.length := by
          have := (List.getElem?_eq_some_iff.mp hx).1
          rwa [List.length_map] at this
        have hi2 : j < (firstL tm l r).length := by
          have := (List.getElem?_eq_some_iff.mp hy).1
          rwa [List.length_map] at this
        have ex : x = .int r[j] := by
          rw [List.getElem?_map, List.getElem?_eq_getElem hi1] at hx
          exact (Option.some.inj hx).symm
        have ey : y = .int (firstL tm l r)[j] := by
          rw [List.getElem?_map, List.getElem?_eq_getElem hi2] at hy
          exact (Option.some.inj hy).symm
        subst ex ey
        have st' : Same H' (upd H' TT' (.tup [.int r[j], .int (firstL tm l r)[j]])) := same_upd hT'
        have ez' : (r.zip (firstL tm l r))[j]? = some (r[j], (firstL tm l r)[j]) := by rw [List.getElem?_zip_eq_some]; exact ⟨List.getElem?_eq_getElem hi1, List.getElem?_eq_getElem hi2⟩
        refine ⟨TT', _, rfl, SqT.of upd_same, rfl, _, _, rfl, _, _, rfl, rfl, rfl, tyes ⟨_, rfl, _, rfl, _, _, rfl, rfl, _, st' _ _ hd, ?_, ?_, ?_⟩⟩
        · rw [List.length_map, List.length_map, List.length_take, List.length_zip]; exact line_lt (by omega)
        · exact mask_upd hD (sm.trans st')
        · rw [upd_same, take_more ez', List.map_append, List.map_append]; rfl
      · rintro H' ⟨s, hd⟩
        rw [show min (r.map V.int).length ((firstL tm l r).map V.int).length = (r.zip (firstL tm l r)).length by rw [List.length_map, List.length_map, List.length_zip], List.take_length] at hd
        have sm := mask hD s
        refine ⟨_, _, rfl, SqL.of hd, _, rfl, ?_⟩
        have em : ((r.zip (firstL tm l r)).map fun q => decide (q.1 < q.2)).any id = (r.zip (firstL tm l r)).any fun q => decide (q.1 < q.2) := by rw [List.any_map]; rfl
        rw [em]
        cases g : (r.zip (firstL tm l r)).any fun q => decide (q.1 < q.2) with
        | true =>
          refine iteT ?_
          have := k H' (s13.trans sm)
          have e2 : earlyB tm ls rows = true := by
            unfold earlyB
            rw [List.any_eq_true]
            exact ⟨(l, r), List.mem_of_getElem? ez, g⟩
          rw [e2] at this
          exact this
        | false =>
          refine iteF ⟨_, _, rfl, s13.trans sm, ?_⟩
          rw [any_take _ ez, hb, Bool.false_or]
          exact g
    · rintro σ' H1 ⟨o3, o4, rfl, s1, hb⟩
      rw [show xs.length = (ls.zip rows).length by rw [List.length_zip]; omega, List.take_length] at hb
      have := k H1 s1
      unfold earlyB at this
      rw [hb] at this
      exact this
end
end Hc


set_option Elab.async false
set_option linter.all false
set_option maxRecDepth 100000
set_option maxHeartbeats 1000000
set_option autoImplicit false
namespace Hc
open PySem L2
theorem flat_len {α β : Type} {f : α → List β} {c : Nat} : ∀ (l : List α), (∀ x ∈ l, (f x).length ≤ c) → (l.flatMap f).length ≤ c * l.length
  | [], _ => Nat.zero_le _
  | x :: l, h => by
    rw [List.flatMap_cons, List.length_append, List.length_cons, Nat.mul_succ]
    have h1 := h x List.mem_cons_self
    have h2 := flat_len l fun y hy => h y (List.mem_cons_of_mem _ hy)
    omega
theorem es_flat : ∀ (ls : List Lt) (rows : List (List Int)), es ls rows = (ls.zip rows).flatMap fun p => p.1.1.zip p.2
  | [], _ => rfl
  | _ :: _, [] => rfl
  | l :: ls, r :: rows => by
    rw [es_cons, es_flat ls rows, List.zip_cons_cons, List.flatMap_cons]
/-- a place as a key -/
def keyOf (e : Nat × Int) : List L2.Key := [.inl (e.1 : Int), .inl e.2]
theorem keyOf_inj {a b : Nat × Int} (h : keyOf a = keyOf b) : a = b := by
  obtain ⟨a1, a2⟩ := a
  obtain ⟨b1, b2⟩ := b
  unfold keyOf at h
  obtain ⟨h1, h2⟩ := List.cons.inj h
  obtain ⟨h2, _⟩ := List.cons.inj h2
  have h1 : (a1 : Int) = (b1 : Int) := Sum.inl.inj h1
  have h2 : a2 = b2 := Sum.inl.inj h2
  have : a1 = b1 := by omega
  rw [this, h2]
/-- the dict counts what has come -/
structure Cnt (kvs : List (List L2.Key × V)) (pf : List (Nat × Int)) : Prop where
  get : ∀ e, valV kvs (keyOf e) = if pf.count e = 0 then none else some (.int (pf.count e : Nat))
  all : ∀ p ∈ kvs, ∃ e, p.1 = keyOf e ∧ p.2 = .int (pf.count e : Nat) ∧ e ∈ pf
  len : kvs.length ≤ pf.length
theorem Cnt.nil : Cnt [] [] := ⟨fun e => by rw [List.count_nil, if_pos rfl]; rfl, (fun p hp => (nomatch hp)), Nat.le_refl _⟩
theorem Cnt.getD {kvs : List (List L2.Key × V)} {pf : List (Nat × Int)} (c : Cnt kvs pf) (e : Nat × Int) : (valV kvs (keyOf e)).getD (.int 0) = .int (pf.count e : Nat) := by
  rw [c.get]
  by_cases h : pf.count e = 0
  · rw [if_pos h, h]; rfl
  · rw [if_neg h]; rfl
theorem count_one (pf : List (Nat × Int)) (e x : Nat × Int) : (pf ++ [e]).count x = pf.count x + if e = x then 1 else 0 := by
  rw [List.count_append, List.count_singleton]
  by_cases q : e = x
  · rw [if_pos q, if_pos (by simpa using q)]
  · rw [if_neg q, if_neg (by simpa using q)]
theorem Cnt.put {kvs : List (List L2.Key × V)} {pf : List (Nat × Int)} (c : Cnt kvs pf) (e : Nat × Int) : Cnt (putK kvs (keyOf e) (.int ((pf.count e : Nat) + 1 : Int))) (pf ++ [e]) := by
  refine ⟨fun x => ?_, fun p hp => ?_, ?_⟩
  · rw [valV_put, count_one]
    by_cases q : e = x
    · subst q
      rw [if_pos rfl, if_pos rfl, if_neg (by omega)]
      congr 2
    · rw [if_neg (fun z => q (keyOf_inj z).symm), if_neg q, Nat.add_zero]
      exact c.get x
  · unfold putK at hp
    by_cases g : (kvs.any fun kv => decide (kv.1 = keyOf e)) = true
    · rw [if_pos g] at hp
      obtain ⟨p0, h0, h1⟩ := List.mem_map.mp hp
      by_cases z : p0.1 = keyOf e
      · rw [if_pos z] at h1
        subst h1
        refine ⟨e, z, ?_, List.mem_append_right _ (List.mem_singleton_self _)⟩
        rw [count_one, if_pos rfl]; rfl
      · rw [if_neg z] at h1
        subst h1
        obtain ⟨x, hx1, hx2, hx3⟩ := c.all p0 h0
        refine ⟨x, hx1, ?_, List.mem_append_left _ hx3⟩
        rw [count_one, if_neg (fun q => z (by rw [hx1, q])), Nat.add_zero]
        exact hx2
    · rw [if_neg g] at hp
      rcases List.mem_append.mp hp with hp | hp
      · obtain ⟨x, hx1, hx2, hx3⟩ := c.all p hp
        refine ⟨x, hx1, ?_, List.mem_append_left _ hx3⟩
        have : ¬ e = x := fun q => g (by
          rw [List.any_eq_true]
          exact ⟨p, hp, decide_eq_true (by rw [hx1, q])⟩)
        rw [count_one, if_neg this, Nat.add_zero]
        exact hx2
      · rw [List.mem_singleton] at hp
        subst hp
        refine ⟨e, rfl, ?_, List.mem_append_right _ (List.mem_singleton_self _)⟩
        rw [count_one, if_pos rfl]; rfl
  · rw [List.length_append, List.length_singleton]
    have := c.len
    unfold putK
    split
    · rw [List.length_map]; omega
    · rw [List.length_append, List.length_singleton]; omega
/-- whether a road is too full -/
def fullB (rm : List Int) (ls : List Lt) (rows : List (List Int)) : Bool := (es ls rows).any fun e => decide (rm.getD e.1 0 < ((es ls rows).count e : Int))
def ovr (rm : List Int) (p : List L2.Key × V) : Bool := match p with
  | (.inl i :: _, .int c) => decide (rm.getD i.toNat 0 < c)
  | _ => false
theorem ovr_key (rm : List Int) (e : Nat × Int) (c : Int) : ovr rm (keyOf e, .int c) = decide (rm.getD e.1 0 < c) := by
  show decide (rm.getD ((e.1 : Int)).toNat 0 < c) = _
  rw [Int.toNat_natCast]
theorem valV_mem {kvs : List (List L2.Key × V)} {k : List L2.Key} {v : V} (h : valV kvs k = some v) : (k, v) ∈ kvs := by
  unfold valV at h
  obtain ⟨p, h1, h2⟩ := Option.map_eq_some_iff.mp h
  have h3 := List.find?_some h1
  have h4 := List.mem_of_find?_eq_some h1
  have h3 : p.1 = k := of_decide_eq_true h3
  obtain ⟨a, b⟩ := p
  cases h3
  cases h2
  exact h4
theorem full_eq {rm : List Int} (hr : ∀ x ∈ rm, 0 ≤ x) {ls : List Lt} {rows : List (List Int)} {kvs : List (List L2.Key × V)} (c : Cnt kvs (es ls rows)) : kvs.any (ovr rm) = fullB rm ls rows := by
  have h0 : ∀ i, 0 ≤ rm.getD i 0 := fun i => by
    rw [List.getD_eq_getElem?_getD]
    cases e : rm[i]? with
    | none => exact Int.le_refl 0
    | some x => exact hr x (List.mem_of_getElem? e)
  rw [Bool.eq_iff_iff, List.any_eq_true]
  unfold fullB
  rw [List.any_eq_true]
  constructor
  · rintro ⟨p, hp, h⟩
    obtain ⟨e, e1, e2, _⟩ := c.all p hp
    obtain ⟨a, b⟩ := p
    cases e1
    cases e2
    have h : decide (rm.getD e.1 0 < ((es ls rows).count e : Int)) = true := (ovr_key rm e _).symm.trans h
    have h1 := of_decide_eq_true h
    have := h0 e.1
    refine ⟨e, ?_, h⟩
    exact List.count_pos_iff.mp (by omega)
  · rintro ⟨e, he, h⟩
    have hc : ¬ (es ls rows).count e = 0 := by
      have := List.count_pos_iff.mpr he
      omega
    have := c.get e
    rw [if_neg hc] at this
    refine ⟨_, valV_mem this, ?_⟩
    rw [ovr_key]
    exact h
theorem es_way {x : Nat × Int} : ∀ {ls : List Lt} {rows : List (List Int)}, x ∈ es ls rows → ∃ l ∈ ls, x.1 ∈ l.1
  | [], _, h => by cases h
  | _ :: _, [], h => by cases h
  | l :: ls, r :: rows, h => by
    rw [es_cons] at h
    rcases List.mem_append.mp h with h | h
    · exact ⟨l, List.mem_cons_self, (List.of_mem_zip (a := x.1) (b := x.2) h).1⟩
    · obtain ⟨l', h1, h2⟩ := es_way h
      exact ⟨l', List.mem_cons_of_mem _ h1, h2⟩
/-- [f(k, v) for k, v in d.items()], tuple keys -/
theorem lc_itemsT {d : Addr} {od : Obj} {kvs : List (List L2.Key × V)} {g : TG} {tt : TT} {te : TE} {vs : List Nat} {σ : St} {H1 : Hp} {D : Addr} {Qd : Hp → Prop} (Pv : Nat → Hp → Prop) (h0 : Pv 0 (upd H1 D (.lst [])))
    (hl : ∀ i H, Pv i H → H d = some (.frz od (.dT kvs)))
    (hs : ∀ (i : Nat) (k : List L2.Key) (v : V) (T q : Addr) (H : Hp), kvs[i]? = some (k, v) → H q = some (.tup (k.map kV)) → Pv i H → H T = none → g (.ref T) (wipe σ vs) (upd H T (.tup [.ref q, v])) fun σ2 H2 => wipe σ2 vs = wipe σ vs ∧ tt σ2 H2 fun b H3 =>
      if b = true then te σ2 H3 fun y H4 => ∃ acc, H4 D = some (.lst acc) ∧ acc.length < sizeLine ∧ Pv (i + 1) (upd H4 D (.lst (acc ++ [y]))) else Pv (i + 1) H3) (hd : ∀ H, Pv kvs.length H → Qd H) :
    ∃ W : Nat → Nat → Hp → Prop, (∃ m, W 0 m (upd H1 D (.lst []))) ∧ ∀ i m H, W i m H →
      ((Itit d od kvs).stop i H ∧ Qd H) ∨ ((Itit d od kvs).go i H ∧ ∃ Nx : Hp → Prop, (∀ H', Nx H' → ∃ m', m' < m ∧ W (i + 1) m' H') ∧ ∀ x H', (Itit d od kvs).yld i H x H' → g x (wipe σ vs) H' fun σ2 H2 => wipe σ2 vs = wipe σ vs ∧ tt σ2 H2 fun b H3 =>
        if b = true then te σ2 H3 fun y H4 => ∃ acc, H4 D = some (.lst acc) ∧ acc.length < sizeLine ∧ Nx (upd H4 D (.lst (acc ++ [y]))) else Nx H3) := by
  refine ⟨fun i m H => m = kvs.length - i ∧ i ≤ kvs.length ∧ Pv i H, ⟨_, rfl, Nat.zero_le _, h0⟩, ?_⟩
  rintro i m H ⟨rfl, hi, p⟩
  have q := hl i H p
  by_cases hlt : i < kvs.length
  · refine .inr ⟨⟨q, hlt⟩, Pv (i + 1), fun H' p' => ⟨kvs.length - (i + 1), by omega, rfl, hlt, p'⟩, fun v H' y => ?_⟩
    obtain ⟨T, k, v', qq, e1, rfl, hT, e2, rfl⟩ := y
    exact hs i k v' T qq H e1 e2 p hT
  · have e : i = kvs.length := by omega
    subst e
    exact .inl ⟨⟨q, Nat.le_refl _⟩, hd H p⟩
section
variable {P : Program} {w : World} {K : PySem.W.Frag} {mg : Str → Option Value} {base : Heap}
def spFull (C : Addr) : Sp := fun vs H Q _ => ∃ (h p b : Addr) (vl : V) (n : Int) (rds : List D) (rm tm : List Int) (ls : List Lt) (rows : List (List Int)), vs = [.ref p, vl, .ref b] ∧ WebR C H h p n rds rm tm ∧ Rp H h vl (ltsD ls) ∧ Rp H h (.ref b) (rowsD rows) ∧ LsOk rds ls ∧ ls.length ≤ 60 ∧ rows.length = ls.length ∧
  (∀ (k : Nat) (l : Lt) (r : List Int), ls[k]? = some l → rows[k]? = some r → r.length = l.1.length) ∧ ∀ H', Same H H' → Q (.bl (fullB rm ls rows)) H'
theorem ok_some_full (T : Tx K mg) : FnOk P w K mg base CX0 2 T.some_full.f T.some_full.fd ["web", "letters", "hours"] (spFull T.Web.C) := by
  refine T.some_full.F.ok sc_some_full (fun vs H Q E h => ?_) (fun cdv A outer s H vs Q E hr h => ?_)
  · obtain ⟨_, _, _, _, _, _, _, _, _, _, rfl, _⟩ := h
    rfl
  · obtain ⟨h, p, b, vl, n, rds, rm, tm, ls, rows, rfl, W, rl, rr, o, l60, ll, lk, k⟩ := h
    obtain ⟨q, xs, rfl, eq, lx, at_⟩ := lts_at rl
    obtain ⟨_, ys, eb, er, ly, rat⟩ := rows_at rr
    cases eb
    obtain ⟨dx, v1, v2, v3, v4, hp, _, r3, _⟩ := W.ex
    obtain ⟨pt, ts, rfl, et, _, rt⟩ := tup_inv r3
    rw [rt.ints_inv] at et
    have sz : ∀ i, ((ls.zip rows).take i).length ≤ 60 := fun i => by rw [List.length_take, List.length_zip]; omega
    have bd : ∀ (k : Nat) (l : Lt) (r : List Int), ls[k]? = some l → rows[k]? = some r → (l.1.zip r).length ≤ 8 := fun k l r e1 e2 => by
      have := (o.h l (List.mem_of_getElem? e1)).2.1
      rw [List.length_zip]; omega
    refine ⟨_, (pss_cons (ps_set (i := 3) sc_some_full.nd rfl (Or.inl rfl) pe_dnewT)
      (pss_cons (ps_for PassesOwn.never rfl (RZ.pi_zipA (by rfl) T.n_zip (pa_cons (pv 1) (pa_cons (pv 2) pa_nil))) (pg_tup (by rfl) (pgs_cons (by exact (pg_tup (by rfl) (pgs_cons (pg_name (i := 4) sc_some_full.nd rfl (Or.inl rfl)) (pgs_cons (pg_name (i := 5) sc_some_full.nd rfl (Or.inl rfl)) pgs_nil)))) (pgs_cons (pg_name (i := 6) sc_some_full.nd rfl (Or.inl rfl)) pgs_nil)))
      (pss_one (ps_for PassesOwn.never rfl (RZ.pi_zipA (by rfl) T.n_zip (pa_cons (pv 4) (pa_cons (pv 6) pa_nil))) (pg_tup (by rfl) (pgs_cons (pg_name (i := 7) sc_some_full.nd rfl (Or.inl rfl)) (pgs_cons (pg_name (i := 8) sc_some_full.nd rfl (Or.inl rfl)) pgs_nil)))
      (pss_one (ps_asg (pe_op op_add (pe_dget2 (units1 hr) (pv 3) (pe_tup (pa_cons (pv 7) (pa_cons (pv 8) pa_nil))) pe_int ⟨rfl, rfl, rfl, rfl⟩) pe_int) (pg_sub (pv 3) (pe_tup (pa_cons (pv 7) (pa_cons (pv 8) pa_nil))) (set_dict (units1 hr))))))))
      (pss_one (ps_ret (pe_lock (pe_callB (cr_any rfl) (by rfl) T.n_any (by decide +kernel) (pa_cons (pe_lc (own := [("many", 9), ("road", 7), ("_", 5)]) (g := (gTup K 2 (gCons (gTup K 2 (gCons (gName 7) (gCons (gName 5) gNil))) (gCons (gName 9) gNil)))) (tt := tYes) (te := (tOp rGtS (tVar 9) (tOp (rIxT K) (tFld K (tVar 0) "rooms") (tVar 7)))) rfl sc_some_full.nd (pi_itemsT (pv 3)) (blkOk_by (own := [("many", 9), ("road", 7), ("_", 5)]) (N := ["web", "letters", "hours", "passed", "way", "_", "row", "road", "hour", "many"]) (sc := defScope s_some_full) (by decide +kernel)) (fun _ _ _ _ _ => (pg_tup (by rfl) (pgs_cons (by exact (pg_tup (by rfl) (pgs_cons (pg_name (i := 7) sc_some_full.nd rfl (Or.inl rfl)) (pgs_cons (pg_name (i := 5) sc_some_full.nd rfl (Or.inl rfl)) pgs_nil)))) (pgs_cons (pg_name (i := 9) sc_some_full.nd rfl (Or.inl rfl)) pgs_nil)))) (fun _ _ _ _ _ => pts_nil) (fun _ _ _ _ _ => (by exact (pe_cmpR op_gt (pv 9) (pe_ix ix_tup (pe_fld (pv 0) rfl) (pv 7) (fun _ _ => rfl)) (nomark _))))) pa_nil))))))), ?_⟩
    refine fun dd hdd => ?_
    refine ⟨_, rfl, _, rfl, q, b, xs, ys, rfl, .inr ⟨SqT.of (same_upd hdd _ _ eq), SqT.of (same_upd hdd _ _ er), RZ.for_zipT (xs := xs) (ys := ys) (by omega) (fun i σ' H' => ∃ (o4 o5 o6 o7 o8 : Option V) (kvs : List (List L2.Key × V)), σ' = [some (.ref p), some (.ref q), some (.ref b), some (.ref dd), o4, o5, o6, o7, o8, none] ∧ Same H (fun b => if b = dd then none else H' b) ∧ H' dd = some (.dT kvs) ∧ Cnt kvs (((ls.zip rows).take i).flatMap fun p => p.1.1.zip p.2))
      ⟨_, _, _, _, _, [], rfl, mask_upd hdd (Same.refl _), upd_same, Cnt.nil⟩ (fun i σ' H' ⟨_, _, _, _, _, _, _, s, _⟩ => ⟨SqT.of (mask hdd s _ _ eq), SqT.of (mask hdd s _ _ er)⟩) ?_ ?_⟩⟩
    · rintro i x y TT σ' H1 hx hy ⟨o4, o5, o6, o7, o8, kvs, rfl, s1, hd1, c1⟩ hT
      have hi : i < ls.length := by rw [← lx]; exact (List.getElem?_eq_some_iff.mp hx).1
      obtain ⟨l, el⟩ : ∃ l, ls[i]? = some l := ⟨_, List.getElem?_eq_getElem hi⟩
      obtain ⟨r, er'⟩ : ∃ r, rows[i]? = some r := ⟨_, List.getElem?_eq_getElem (by omega)⟩
      obtain ⟨x', ex', rx⟩ := at_ i l el
      rw [hx] at ex'
      cases ex'
      obtain ⟨b2, eb2, ey⟩ := rat i r er'
      rw [hy] at eb2
      cases eb2
      obtain ⟨ql, al, rfl, eql, eal⟩ := lt_inv rx
      have st : Same H1 (upd H1 TT (.tup [.ref ql, .ref b2])) := same_upd hT
      have hd2 := st _ _ hd1
      have s2 : Same H (fun b => if b = dd then none else upd H1 TT (.tup [.ref ql, .ref b2]) b) := fun b u z => by
        have nb := ne_of_none z hdd
        show (if b = dd then none else upd H1 TT _ b) = _
        rw [if_neg nb]
        exact st _ _ (mask hdd s1 _ _ z)
      have m2 := mask hdd s2
      have ez : (ls.zip rows)[i]? = some (l, r) := by rw [List.getElem?_zip_eq_some]; exact ⟨el, er'⟩
      have hlr := lk i l r el er'
      refine ⟨TT, _, rfl, SqT.of upd_same, rfl, _, _, rfl, ⟨ql, _, rfl, SqT.of (m2 _ _ eql), rfl, _, _, rfl, _, _, rfl, rfl, _, _, rfl, rfl, ?_⟩⟩
      generalize upd H1 TT (.tup [.ref ql, .ref b2]) = H2 at st hd2 s2 m2 ⊢
      clear hd1 s1
      obtain ⟨E0, eE⟩ : ∃ E0, E0 = ((ls.zip rows).take i).flatMap fun p => p.1.1.zip p.2 := ⟨_, rfl⟩
      rw [← eE] at c1
      have lE : E0.length ≤ 480 := by
        rw [eE]
        have := flat_len (f := fun p : Lt × List Int => p.1.1.zip p.2) (c := 8) ((ls.zip rows).take i) fun p hp => by
          obtain ⟨j, hj, e⟩ := List.mem_iff_getElem.mp (List.mem_of_mem_take hp)
          have e2 : (ls.zip rows)[j]? = some p := by rw [List.getElem?_eq_getElem hj, e]
          rw [List.getElem?_zip_eq_some] at e2
          exact bd j p.1 p.2 e2.1 e2.2
        have := sz i
        omega
      have l8 := bd i l r el er'
      refine ⟨_, rfl, _, rfl, al, b2, _, _, rfl, .inr ⟨SqT.of (m2 _ _ eal), SqT.of (m2 _ _ ey), RZ.for_zipT (xs := l.1.map fun j => V.int (j : Nat)) (ys := r.map V.int) (by rw [List.length_map, List.length_map]; exact hlr.symm) (fun j σ' H' => ∃ (o7 o8 : Option V) (kvs : List (List L2.Key × V)), σ' = [some (.ref p), some (.ref q), some (.ref b), some (.ref dd), some (.ref al), some (.int l.2), some (.ref b2), o7, o8, none] ∧ Same H (fun b => if b = dd then none else H' b) ∧ H' dd = some (.dT kvs) ∧ Cnt kvs (E0 ++ (l.1.zip r).take j))
        ⟨_, _, kvs, rfl, s2, hd2, by rw [List.take_zero, List.append_nil]; exact c1⟩ (fun i σ' H' ⟨_, _, _, _, s, _⟩ => ⟨SqT.of (mask hdd s _ _ eal), SqT.of (mask hdd s _ _ ey)⟩) ?_ ?_⟩⟩
      · clear c1 hd2 s2 m2 st kvs
        rintro j x y T2 σ' H3 hx hy ⟨o7, o8, kvs, rfl, s3, hd3, c3⟩ hT2
        have hj1 : j < l.1.length := by
          have := (List.getElem?_eq_some_iff.mp hx).1
          rwa [List.length_map] at this
        have hj2 : j < r.length := by omega
        have ex : x = .int (l.1[j] : Nat) := by
          rw [List.getElem?_map, List.getElem?_eq_getElem hj1] at hx
          exact (Option.some.inj hx).symm
        have ey2 : y = .int r[j] := by
          rw [List.getElem?_map, List.getElem?_eq_getElem hj2] at hy
          exact (Option.some.inj hy).symm
        subst ex ey2
        have ez2 : (l.1.zip r)[j]? = some (l.1[j], r[j]) := by rw [List.getElem?_zip_eq_some]; exact ⟨List.getElem?_eq_getElem hj1, List.getElem?_eq_getElem hj2⟩
        have m3 := mask hdd s3
        have s4 : Same H3 (upd H3 T2 (.tup [.int (l.1[j] : Nat), .int r[j]])) := same_upd hT2
        refine ⟨T2, _, rfl, SqT.of upd_same, rfl, _, _, rfl, _, _, rfl, rfl, ?_⟩
        generalize upd H3 T2 (.tup [.int (l.1[j] : Nat), .int r[j]]) = H4 at s4 ⊢
        have hd4 := s4 _ _ hd3
        refine ⟨_, rfl, dd, rfl, .inr ⟨kvs, .inl hd4⟩, _, rfl, _, rfl, by show 2 ≤ sizeLine; decide, fun t1 ht1 => ?_⟩
        have s5 : Same H4 (upd H4 t1 (.tup [.int (l.1[j] : Nat), .int r[j]])) := same_upd ht1
        have e5 : (upd H4 t1 (.tup [.int (l.1[j] : Nat), .int r[j]])) t1 = some (.tup ((keyOf (l.1[j], r[j])).map kV)) := upd_same
        generalize upd H4 t1 (.tup [.int (l.1[j] : Nat), .int r[j]]) = H5 at s5 e5 ⊢
        have hd5 := s5 _ _ hd4
        refine ⟨_, DGet.t hd5 e5, ?_⟩
        rw [c3.getD]
        refine ⟨_, _, rfl, rfl, _, rfl, _, rfl, _, rfl, by show 2 ≤ sizeLine; decide, fun t2 ht2 => ?_⟩
        have s6 : Same H5 (upd H5 t2 (.tup [.int (l.1[j] : Nat), .int r[j]])) := same_upd ht2
        have e6 : (upd H5 t2 (.tup [.int (l.1[j] : Nat), .int r[j]])) t2 = some (.tup ((keyOf (l.1[j], r[j])).map kV)) := upd_same
        generalize upd H5 t2 (.tup [.int (l.1[j] : Nat), .int r[j]]) = H6 at s6 e6 ⊢
        have hd6 := s6 _ _ hd5
        have lk3 := c3.len
        have lt3 : ((l.1.zip r).take j).length ≤ 8 := by rw [List.length_take]; omega
        rw [List.length_append] at lk3
        refine ⟨dd, _, rfl, DPut.t hd6 e6 (line_lt (by omega)), ?_⟩
        refine ⟨_, _, _, rfl, mask_upd hdd ((m3.trans s4).trans (s5.trans s6)) , upd_same, ?_⟩
        rw [take_more ez2, ← List.append_assoc]
        exact c3.put (l.1[j], r[j])
      · rintro σ' H3 ⟨o7, o8, kvs, rfl, s3, hd3, c3⟩
        rw [show (l.1.map fun j => V.int (j : Nat)).length = (l.1.zip r).length by rw [List.length_map, List.length_zip]; omega, List.take_length] at c3
        refine ⟨_, _, _, _, _, kvs, rfl, s3, hd3, ?_⟩
        rw [take_more ez, List.flatMap_append, List.flatMap_cons, List.flatMap_nil, List.append_nil, ← eE]
        exact c3
    · rintro σ' H1 ⟨o4, o5, o6, o7, o8, kvs, rfl, s1, hd1, c1⟩
      rw [show xs.length = (ls.zip rows).length by rw [List.length_zip]; omega, List.take_length, ← es_flat] at c1
      have m1 := mask hdd s1
      refine ⟨dd, .dT kvs, hd1, trivial, fun od => ?_⟩
      have s2 : Same H (upd H1 dd (.frz od (.dT kvs))) := mask hdd (mask_upd hdd m1)
      have e2 : (upd H1 dd (.frz od (.dT kvs))) dd = some (.frz od (.dT kvs)) := upd_same
      generalize upd H1 dd (.frz od (.dT kvs)) = H2 at s2 e2 ⊢
      have lkv : kvs.length ≤ 480 := by
        have h1 := c1.len
        rw [es_flat] at h1
        have := flat_len (f := fun p : Lt × List Int => p.1.1.zip p.2) (c := 8) (ls.zip rows) fun p hp => by
          obtain ⟨j, hj, e⟩ := List.mem_iff_getElem.mp hp
          have e2 : (ls.zip rows)[j]? = some p := by rw [List.getElem?_eq_getElem hj, e]
          rw [List.getElem?_zip_eq_some] at e2
          exact bd j p.1 p.2 e2.1 e2.2
        have hz := List.length_zip (l₁ := ls) (l₂ := rows)
        omega
      refine ⟨_, rfl, dd, od, kvs, rfl, e2, fun D hD => ?_⟩
      have nDd : dd ≠ D := fun z => by subst z; rw [e2] at hD; cases hD
      have hD0 : H D = none := by
        cases z : H D with
        | none => rfl
        | some u => rw [s2 _ _ z] at hD; cases hD
      refine lc_itemsT (d := dd) (od := od) (kvs := kvs) (fun i H' => Same H H' ∧ H' dd = some (.frz od (.dT kvs)) ∧ H' D = some (.lst (((kvs.take i).map (ovr rm)).map V.bl)))
        ⟨mask hD0 (mask_upd hD0 s2), by rw [upd_ne nDd]; exact e2, upd_same⟩ (fun i H' ⟨_, e, _⟩ => e) ?_ ?_
      · rintro i kk v T2 q2 H3 hkv hq2 ⟨s3, hd3, hD3⟩ hT2
        obtain ⟨e, e1, e4, e5⟩ := c1.all _ (List.mem_of_getElem? hkv)
        have hi : i < kvs.length := (List.getElem?_eq_some_iff.mp hkv).1
        have e1 : kk = keyOf e := e1
        have e4 : v = .int ((es ls rows).count e : Nat) := e4
        subst e1 e4
        obtain ⟨l, hl1, hl2⟩ := es_way e5
        have hrd : e.1 < rm.length := by rw [W.lr]; exact (o.h l hl1).2.2.1 _ hl2
        have s4 : Same H3 (upd H3 T2 (.tup [.ref q2, .int ((es ls rows).count e : Nat)])) := same_upd hT2
        refine ⟨T2, _, rfl, SqT.of upd_same, rfl, _, _, rfl, ⟨q2, _, rfl, SqT.of (s4 _ _ hq2), rfl, _, _, rfl, _, _, rfl, rfl, _, _, rfl, rfl, rfl, tyes ⟨_, rfl, _, rfl, p, T.Web.C, dx, _, _, rfl, s4 _ _ (s3 _ _ hp), T.Web.cl, T.Web.no _ (by simp), wF_m _ _ _ _, _, rfl, pt, _, _, _, rfl, rfl, SqT.of (s4 _ _ (s3 _ _ et)), atI_nat (int_at rm hrd), _, _, rfl, rfl, _, s4 _ _ hD3, ?_, ?_, ?_, ?_⟩⟩⟩
        · rw [List.length_map, List.length_map, List.length_take]; exact line_lt (by omega)
        · exact mask hD0 (mask_upd hD0 (s3.trans s4))
        · rw [upd_ne nDd]; exact s4 _ _ hd3
        · rw [upd_same, take_more hkv, List.map_append, List.map_append, List.map_cons, List.map_nil, ovr_key]; rfl
      · rintro H3 ⟨s3, hd3, hD3⟩
        rw [List.take_length] at hD3
        refine ⟨_, _, rfl, SqL.of hD3, hd3, ?_⟩
        have em : (kvs.map (ovr rm)).any id = kvs.any (ovr rm) := by rw [List.any_map]; rfl
        rw [em, full_eq (fun x hx => by have := (W.br x hx).1; omega) c1]
        exact k _ (mask hdd (mask_upd hdd s3))
end
end Hc


set_option Elab.async false
set_option linter.all false
set_option maxRecDepth 100000
set_option maxHeartbeats 1000000
set_option autoImplicit false
namespace Hc
open PySem L2
theorem way_inv {rds : List D} {d : D} (e : isWay rds d = true) : ∃ ns, d = nD ns ∧ 1 ≤ ns.length ∧ ns.length ≤ 8 ∧ (∀ j ∈ ns, j < rds.length) ∧ wayOk rds ns := by
  cases d with
  | tup ds =>
    rw [isWay_tup] at e
    rw [Bool.and_eq_true, Bool.and_eq_true, Bool.and_eq_true] at e
    obtain ⟨⟨⟨h1, h2⟩, h3⟩, h4⟩ := e
    have h1 := of_decide_eq_true h1
    have h2 := of_decide_eq_true h2
    have key : ∀ ds : List D, ds.all (isRoad rds) = true → ∃ ns : List Nat, ds = ns.map (fun j => D.int (j : Nat)) ∧ ∀ j ∈ ns, j < rds.length := by
      intro ds
      induction ds with
      | nil => exact fun _ => ⟨[], rfl, fun _ z => nomatch z⟩
      | cons d ds ih =>
        intro h
        rw [List.all_cons, Bool.and_eq_true] at h
        obtain ⟨j, rfl, hj⟩ := road_in h.1
        obtain ⟨ns, rfl, hn⟩ := ih h.2
        refine ⟨j :: ns, rfl, fun x hx => ?_⟩
        rcases List.mem_cons.mp hx with rfl | hx
        · exact hj
        · exact hn x hx
    obtain ⟨ns, rfl, hn⟩ := key ds h3
    rw [List.length_map] at h1 h2
    refine ⟨ns, rfl, h1, h2, hn, fun i hi => ?_⟩
    rw [nums_map] at h4
    unfold adj at h4
    rw [List.all_eq_true, List.length_map] at h4
    have := of_decide_eq_true (h4 i (List.mem_range.mpr (by omega)))
    have a1 : i < ns.length := by omega
    rw [getD_map ns a1, getD_map ns hi] at this
    rw [List.getD_eq_getElem?_getD, List.getElem?_eq_getElem a1, List.getD_eq_getElem?_getD, List.getElem?_eq_getElem hi]
    exact this
  | _ => exact Bool.noConfusion e
theorem letters_inv {rds : List D} {d : D} (e : areLetters rds d = true) : ∃ ls, d = ltsD ls ∧ LsOk rds ls ∧ ls.length ≤ 60 := by
  cases d with
  | tup ds =>
    rw [areLetters_tup, Bool.and_eq_true] at e
    obtain ⟨h1, h2⟩ := e
    have h1 := of_decide_eq_true h1
    have key : ∀ ds : List D, ds.all (isLetter rds) = true → ∃ ls : List Lt, ds = ls.map ltD ∧ LsOk rds ls := by
      intro ds
      induction ds with
      | nil => exact fun _ => ⟨[], rfl, ⟨fun _ z => nomatch z⟩⟩
      | cons d ds ih =>
        intro h
        rw [List.all_cons, Bool.and_eq_true] at h
        obtain ⟨ls, rfl, o⟩ := ih h.2
        have h0 := h.1
        have t2 : isTupN 2 d = true := by
          cases q : isTupN 2 d with
          | true => rfl
          | false => rw [not_two q] at h0; cases h0
        obtain ⟨a, b, rfl⟩ := two_of t2
        have h0 : (isWay rds a && isBtw 1 1000000 b) = true := h0
        rw [Bool.and_eq_true] at h0
        obtain ⟨ns, rfl, n1, n2, n3, n4⟩ := way_inv h0.1
        obtain ⟨c, rfl⟩ := btw_shape h0.2
        have hc : (decide (1 ≤ c) && decide (c ≤ 1000000)) = true := h0.2
        rw [Bool.and_eq_true] at hc
        refine ⟨(ns, c) :: ls, rfl, ⟨fun l hl => ?_⟩⟩
        rcases List.mem_cons.mp hl with rfl | hl
        · exact ⟨n1, n2, n3, n4, of_decide_eq_true hc.1, of_decide_eq_true hc.2⟩
        · exact o.h l hl
    obtain ⟨ls, rfl, o⟩ := key ds h2
    exact ⟨ls, rfl, o, by rw [List.length_map] at h1; exact h1⟩
  | _ => exact Bool.noConfusion e
theorem letters_ok {rds : List D} {ls : List Lt} (o : LsOk rds ls) (h : ls.length ≤ 60) : areLetters rds (ltsD ls) = true := by
  show areLetters rds (.tup (ls.map ltD)) = true
  rw [areLetters_tup, List.length_map, decide_eq_true h, Bool.true_and, List.all_eq_true]
  intro d hd
  obtain ⟨l, hl, rfl⟩ := List.mem_map.mp hd
  obtain ⟨a1, a2, a3, a4, a5, a6⟩ := o.h l hl
  show (isWay rds (nD l.1) && isBtw 1 1000000 (.int l.2)) = true
  rw [way_ok a1 a2 a3 a4, btw_of a5 a6]; rfl
theorem ints_inv2 {n : Nat} {d : D} (e : areInts (n : Nat) d = true) : ∃ r : List Int, d = rowD r ∧ r.length = n := by
  cases d with
  | tup ds =>
    rw [areInts_tup, Bool.and_eq_true] at e
    have h1 := of_decide_eq_true e.1
    have key : ∀ ds : List D, ds.all isInt = true → ∃ ns : List Int, ds = ns.map D.int := by
      intro ds
      induction ds with
      | nil => exact fun _ => ⟨[], rfl⟩
      | cons d ds ih =>
        intro h
        rw [List.all_cons, Bool.and_eq_true] at h
        obtain ⟨ns, rfl⟩ := ih h.2
        cases d with
        | int i => exact ⟨i :: ns, rfl⟩
        | _ => exact Bool.noConfusion h.1
    obtain ⟨r, rfl⟩ := key ds e.2
    refine ⟨r, rfl, ?_⟩
    rw [List.length_map] at h1
    omega
  | _ => exact Bool.noConfusion e
/-- rows of the right lengths -/
def LenOk (ls : List Lt) (rows : List (List Int)) : Prop := rows.length = ls.length ∧ ∀ (k : Nat) (l : Lt) (r : List Int), ls[k]? = some l → rows[k]? = some r → r.length = l.1.length
theorem hours_inv {ls : List Lt} {d : D} (e : areHours ls d = true) : ∃ rows, d = rowsD rows ∧ LenOk ls rows := by
  cases d with
  | tup ds =>
    rw [areHours_tup, Bool.and_eq_true] at e
    have h1 := of_decide_eq_true e.1
    have key : ∀ (ls : List Lt) (ds : List D), ds.length = ls.length → ((ls.zip ds).all fun p => areInts (p.1.1.length : Nat) p.2) = true → ∃ rows : List (List Int), ds = rows.map rowD ∧ LenOk ls rows := by
      intro ls
      induction ls with
      | nil =>
        intro ds h _
        have : ds = [] := List.eq_nil_of_length_eq_zero h
        subst this
        exact ⟨[], rfl, rfl, fun k l r e => by simp at e⟩
      | cons l ls ih =>
        intro ds h g
        cases ds with
        | nil => simp at h
        | cons d ds =>
          rw [List.zip_cons_cons, List.all_cons, Bool.and_eq_true] at g
          obtain ⟨rows, rfl, q1, q2⟩ := ih ds (by simpa using h) g.2
          obtain ⟨r, rfl, hr⟩ := ints_inv2 g.1
          refine ⟨r :: rows, rfl, by simpa using q1, fun k l' r' e1 e2 => ?_⟩
          cases k with
          | zero =>
            have e1 : l = l' := by simpa using e1
            have e2 : r = r' := by simpa using e2
            subst e1 e2
            exact hr
          | succ k => exact q2 k l' r' (by simpa using e1) (by simpa using e2)
    obtain ⟨rows, rfl, o⟩ := key ls ds h1 e.2
    exact ⟨rows, rfl, o⟩
  | _ => exact Bool.noConfusion e
theorem hours_ok {ls : List Lt} {rows : List (List Int)} (o : LenOk ls rows) : areHours ls (rowsD rows) = true := by
  show areHours ls (.tup (rows.map rowD)) = true
  rw [areHours_tup, List.length_map, decide_eq_true o.1, Bool.true_and, List.all_eq_true]
  rintro ⟨l, d⟩ hp
  obtain ⟨k, hk, e⟩ := List.mem_iff_getElem.mp hp
  have e2 : (ls.zip (rows.map rowD))[k]? = some (l, d) := by rw [List.getElem?_eq_getElem hk, e]
  rw [List.getElem?_zip_eq_some, List.getElem?_map] at e2
  obtain ⟨e3, e4⟩ := e2
  cases er : rows[k]? with
  | none => rw [er] at e4; cases e4
  | some r =>
    rw [er] at e4
    cases e4
    have := o.2 k l r e3 er
    show areInts (l.1.length : Nat) (.tup (r.map D.int)) = true
    rw [areInts_tup, List.length_map, this, decide_eq_true rfl, Bool.true_and, List.all_eq_true]
    intro x hx
    obtain ⟨i, _, rfl⟩ := List.mem_map.mp hx
    rfl
/-- no hour is early -/
theorem early_ok {tm : List Int} {ls : List Lt} {rows : List (List Int)} (o : LenOk ls rows) (h : ∀ (k : Nat) (l : Lt) (r : List Int), ls[k]? = some l → rows[k]? = some r → EarlyOk tm l r) : earlyB tm ls rows = false := by
  unfold earlyB
  rw [List.any_eq_false]
  rintro ⟨l, r⟩ hp
  obtain ⟨k, hk, e⟩ := List.mem_iff_getElem.mp hp
  have e2 : (ls.zip rows)[k]? = some (l, r) := by rw [List.getElem?_eq_getElem hk, e]
  rw [List.getElem?_zip_eq_some] at e2
  obtain ⟨e3, e4⟩ := e2
  have he := h k l r e3 e4
  have hl := o.2 k l r e3 e4
  rw [Bool.not_eq_true, List.any_eq_false]
  rintro ⟨x, f⟩ hq
  obtain ⟨j, hj, ej⟩ := List.mem_iff_getElem.mp hq
  have e5 : (r.zip (firstL tm l r))[j]? = some (x, f) := by rw [List.getElem?_eq_getElem hj, ej]
  rw [List.getElem?_zip_eq_some] at e5
  obtain ⟨e6, e7⟩ := e5
  have hjr : j < r.length := (List.getElem?_eq_some_iff.mp e6).1
  have hx : r.getD j 0 = x := by rw [List.getD_eq_getElem?_getD, e6]; rfl
  have := he j hjr
  rw [hx] at this
  have hf : f = nextAt tm l (r.take j) := by
    unfold nextAt
    cases j with
    | zero =>
      have e7 : some l.2 = some f := e7
      cases e7
      rw [if_pos (by simp)]
    | succ j =>
      have e7 : ((l.1.zip (r.take (r.length - 1))).map fun p => p.2 + tm.getD p.1 0)[j]? = some f := e7
      have h1 : j < l.1.length := by omega
      have h2 : j < (r.take (r.length - 1)).length := by rw [List.length_take]; omega
      have ez : (l.1.zip (r.take (r.length - 1)))[j]? = some (l.1[j], (r.take (r.length - 1))[j]) := by rw [List.getElem?_zip_eq_some]; exact ⟨List.getElem?_eq_getElem h1, List.getElem?_eq_getElem h2⟩
      rw [List.getElem?_map, ez] at e7
      have e7 : some ((r.take (r.length - 1))[j] + tm.getD l.1[j] 0) = some f := e7
      cases e7
      have hlen : (r.take (j + 1)).length = j + 1 := by rw [List.length_take]; omega
      rw [if_neg (by omega), hlen, Nat.add_sub_cancel]
      have g1 : (r.take (j + 1)).getD j 0 = r[j] := by
        rw [List.getD_eq_getElem?_getD, List.getElem?_take_of_lt (Nat.lt_succ_self j), List.getElem?_eq_getElem (by omega)]; rfl
      have g2 : l.1.getD j 0 = l.1[j] := by rw [List.getD_eq_getElem?_getD, List.getElem?_eq_getElem h1]; rfl
      rw [g1, g2, List.getElem_take]
  rw [← hf] at this
  exact fun z => by
    have := of_decide_eq_true z
    omega
theorem full_ok {rm : List Int} {ls : List Lt} {rows : List (List Int)} (hr : ∀ l ∈ ls, ∀ j ∈ l.1, j < rm.length) (h : NotFull rm ls rows) : fullB rm ls rows = false := by
  unfold fullB
  rw [List.any_eq_false]
  rintro ⟨road, t⟩ he
  obtain ⟨l, h1, h2⟩ := es_way he
  have := h road t (hr l h1 _ h2)
  exact fun z => by
    have g : rm.getD road 0 < ((es ls rows).count (road, t) : Int) := of_decide_eq_true z
    omega
/-- the part of a day that is not as told -/
inductive DueD (rds : List D) (rm tm : List Int) : D → D → Str → Prop
  | letters {d2 d3 : D} : areLetters rds d2 = false → DueD rds rm tm d2 d3 "letters"
  | hours {ls : List Lt} {d3 : D} : LsOk rds ls → ls.length ≤ 60 → areHours ls d3 = false → DueD rds rm tm (ltsD ls) d3 "hours"
  | early {ls : List Lt} {rows : List (List Int)} : LsOk rds ls → ls.length ≤ 60 → LenOk ls rows → earlyB tm ls rows = true → DueD rds rm tm (ltsD ls) (rowsD rows) "early"
  | full {ls : List Lt} {rows : List (List Int)} : LsOk rds ls → ls.length ≤ 60 → LenOk ls rows → earlyB tm ls rows = false → fullB rm ls rows = true → DueD rds rm tm (ltsD ls) (rowsD rows) "full"
/-- a right day's parts -/
structure DayOk (rds : List D) (rm tm : List Int) (ls : List Lt) (rows : List (List Int)) : Prop where
  o : LsOk rds ls
  l : ls.length ≤ 60
  n : LenOk ls rows
  e : earlyB tm ls rows = false
  f : fullB rm ls rows = false
theorem nat_map_inj : ∀ {a b : List Nat}, (a.map fun j => D.int (j : Nat)) = (b.map fun j => D.int (j : Nat)) → a = b
  | [], [], _ => rfl
  | [], _ :: _, e => by cases e
  | _ :: _, [], e => by cases e
  | x :: a, y :: b, e => by
    rw [List.map_cons, List.map_cons] at e
    obtain ⟨e1, e2⟩ := List.cons.inj e
    have e1 := D.int.inj e1
    rw [nat_map_inj e2, show x = y by omega]
theorem lts_inj : ∀ {a b : List Lt}, a.map ltD = b.map ltD → a = b
  | [], [], _ => rfl
  | [], _ :: _, e => by cases e
  | _ :: _, [], e => by cases e
  | x :: a, y :: b, e => by
    rw [List.map_cons, List.map_cons] at e
    obtain ⟨e1, e2⟩ := List.cons.inj e
    have e1 := D.tup.inj e1
    obtain ⟨e3, e4⟩ := List.cons.inj e1
    obtain ⟨e4, _⟩ := List.cons.inj e4
    have e4 := D.int.inj e4
    have e3 := nat_map_inj (D.tup.inj e3)
    rw [lts_inj e2, Prod.ext e3 e4]
theorem int_map_inj : ∀ {a b : List Int}, a.map D.int = b.map D.int → a = b
  | [], [], _ => rfl
  | [], _ :: _, e => by cases e
  | _ :: _, [], e => by cases e
  | x :: a, y :: b, e => by
    rw [List.map_cons, List.map_cons] at e
    obtain ⟨e1, e2⟩ := List.cons.inj e
    rw [int_map_inj e2, D.int.inj e1]
theorem rows_inj : ∀ {a b : List (List Int)}, a.map rowD = b.map rowD → a = b
  | [], [], _ => rfl
  | [], _ :: _, e => by cases e
  | _ :: _, [], e => by cases e
  | x :: a, y :: b, e => by
    rw [List.map_cons, List.map_cons] at e
    obtain ⟨e1, e2⟩ := List.cons.inj e
    rw [rows_inj e2, int_map_inj (D.tup.inj e1)]
theorem DayOk.not {rds : List D} {rm tm : List Int} {ls : List Lt} {rows : List (List Int)} (x : DayOk rds rm tm ls rows) {part : Str} : ¬ DueD rds rm tm (ltsD ls) (rowsD rows) part := by
  intro h
  generalize e1 : ltsD ls = d2 at h
  generalize e2 : rowsD rows = d3 at h
  cases h with
  | letters h => subst e1; rw [letters_ok x.o x.l] at h; cases h
  | hours _ _ h =>
    obtain rfl := lts_inj (D.tup.inj e1)
    subst e2
    rw [hours_ok x.n] at h; cases h
  | early _ _ _ h =>
    obtain rfl := lts_inj (D.tup.inj e1)
    obtain rfl := rows_inj (D.tup.inj e2)
    rw [x.e] at h; cases h
  | full _ _ _ _ h =>
    obtain rfl := lts_inj (D.tup.inj e1)
    obtain rfl := rows_inj (D.tup.inj e2)
    rw [x.f] at h; cases h
/-- a day's object at p -/
structure DayO (C CW : Addr) (H : Hp) (h p : Addr) (n : Int) (rds : List D) (rm tm : List Int) (ls : List Lt) (rows : List (List Int)) : Prop where
  ex : ∃ (dx : Addr) (fs : List (Str × V)) (pw : Addr) (v2 v3 : V), H p = some (.ins C dx fs) ∧ fs.length ≤ 100 ∧ fs.lookup ("web" : Str) = some (.ref pw) ∧ fs.lookup ("letters" : Str) = some v2 ∧ fs.lookup ("hours" : Str) = some v3 ∧ WebR CW H h pw n rds rm tm ∧ Rp H h v2 (ltsD ls) ∧ Rp H h v3 (rowsD rows)
theorem noL_ltsD (ls : List Lt) : noL (ltsD ls) = true := noL_lts ls
theorem noL_rowsD (rows : List (List Int)) : noL (rowsD rows) = true := noL_rows rows
theorem DayO.nl {C CW : Addr} {H H' : Hp} {h p : Addr} {n : Int} {rds : List D} {rm tm : List Int} {ls : List Lt} {rows : List (List Int)} (x : DayO C CW H h p n rds rm tm ls rows) (k : NL H H') : DayO C CW H' h p n rds rm tm ls rows := by
  obtain ⟨dx, fs, pw, v2, v3, a1, a2, a3, a4, a5, a6, a7, a8⟩ := x.ex
  exact ⟨dx, fs, pw, v2, v3, k _ _ a1 (fun _ z => by cases z), a2, a3, a4, a5, a6.nl k, a7.nl k (noL_ltsD ls), a8.nl k (noL_rowsD rows)⟩
def dayF (v1 v2 v3 : V) : List (Str × V) := putF "hours" v3 (putF "letters" v2 (putF "web" v1 []))
theorem ne_hl : ¬ (("letters" : Str) = "hours") := by decide +kernel
theorem ne_wh : ¬ (("web" : Str) = "hours") := by decide +kernel
theorem ne_wl : ¬ (("web" : Str) = "letters") := by decide +kernel
theorem ne_lh : ¬ (("hours" : Str) = "letters") := by decide +kernel
section
variable {P : Program} {w : World} {K : PySem.W.Frag} {mg : Str → Option Value} {base : Heap}
theorem ok_BadDay___init (T : Tx K mg) : FnOk P w K mg base (L2.CX P w) 1 T.x_BadDay.f T.x_BadDay.fd ["self", "part"] (spInitE T.x_BadDay.C "part") := by
  refine T.x_BadDay.F.okX sc_BadDay___init (fun vs H Q E h => ?_) (fun cdv A outer s H vs Q E hr h => ?_)
  · obtain ⟨a, y, rfl, _⟩ := h
    rfl
  · obtain ⟨a, y, rfl, ha, k⟩ := h
    refine ⟨_, pss_one (ps_ost (pv 0) (pv 1)), ?_⟩
    exact ⟨_, rfl, _, rfl, a, T.x_BadDay.C, rfl, T.x_BadDay.T, T.x_BadDay.no _ (by simp), .inl ⟨ha, fun dx n ne => k dx n ne⟩⟩
def spDay (C CW CB : Addr) : Sp := fun vs H Q E => ∃ (h p dx pw : Addr) (v2 v3 : V) (d2 d3 : D) (n : Int) (rds : List D) (rm tm : List Int), vs = [.ref p, .ref pw, v2, v3] ∧ H p = some (.ins C dx []) ∧ WebR CW H h pw n rds rm tm ∧ Rp H h v2 d2 ∧ Rp H h v3 d3 ∧
  (∀ ls rows, d2 = ltsD ls → d3 = rowsD rows → DayOk rds rm tm ls rows → ∀ H', But p H H' → H' p = some (.ins C dx (dayF (.ref pw) v2 v3)) → Q .non H') ∧
  (∀ part, DueD rds rm tm d2 d3 part → ∀ H' d, Same H H' → H' d = some (.xd [("part", .str part)]) → E (.ref CB) (some d) H')
theorem ok_Day___init (T : Tx K mg) : FnOk P w K mg base (L2.CX P w) 8 T.Day.f T.Day.fd ["self", "web", "letters", "hours"] (spDay T.Day.C T.Web.C T.x_BadDay.C) := by
  refine T.Day.F.okX sc_Day___init (fun vs H Q E h => ?_) (fun cdv A outer s H vs Q E hr h => ?_)
  · obtain ⟨_, _, _, _, _, _, _, _, _, _, _, _, rfl, _⟩ := h
    rfl
  · obtain ⟨h, p, dx, pw, v2, v3, d2, d3, n, rds, rm, tm, rfl, hp, W, r2, r3, kq, ke⟩ := h
    refine ⟨_, (pss_cons (ps_if (pt_not (pt_val (pe_call (ok_are_letters T) (hr.mono (by decide)) rfl T.are_letters.g T.are_letters.F.kp T.are_letters.b .nil pass0 (pa_cons (pv 1) (pa_cons (pv 2) pa_nil)))))
      (pss_one (ps_raise rfl (takes_of rfl rfl rfl rfl) (pmk_oex T.x_BadDay.T T.x_BadDay.iC T.x_BadDay.tI (ok_BadDay___init T) (hr.mono (by decide)) T.x_BadDay.b .nil passL rfl T.x_BadDay.g (pa_cons pe_str pa_nil))))
      pss_nil)
      (pss_cons (ps_if (pt_not (pt_val (pe_call (ok_are_hours T) (hr.mono (by decide)) rfl T.are_hours.g T.are_hours.F.kp T.are_hours.b .nil pass0 (pa_cons (pv 2) (pa_cons (pv 3) pa_nil)))))
      (pss_one (ps_raise rfl (takes_of rfl rfl rfl rfl) (pmk_oex T.x_BadDay.T T.x_BadDay.iC T.x_BadDay.tI (ok_BadDay___init T) (hr.mono (by decide)) T.x_BadDay.b .nil passL rfl T.x_BadDay.g (pa_cons pe_str pa_nil))))
      pss_nil)
      (pss_cons (ps_if (pt_val (pe_call (ok_some_early T) (hr.mono (by decide)) rfl T.some_early.g T.some_early.F.kp T.some_early.b .nil pass0 (pa_cons (pv 1) (pa_cons (pv 2) (pa_cons (pv 3) pa_nil)))))
      (pss_one (ps_raise rfl (takes_of rfl rfl rfl rfl) (pmk_oex T.x_BadDay.T T.x_BadDay.iC T.x_BadDay.tI (ok_BadDay___init T) (hr.mono (by decide)) T.x_BadDay.b .nil passL rfl T.x_BadDay.g (pa_cons pe_str pa_nil))))
      pss_nil)
      (pss_cons (ps_if (pt_val (pe_call (ok_some_full T) (hr.mono (by decide)) rfl T.some_full.g T.some_full.F.kp T.some_full.b .nil pass0 (pa_cons (pv 1) (pa_cons (pv 2) (pa_cons (pv 3) pa_nil)))))
      (pss_one (ps_raise rfl (takes_of rfl rfl rfl rfl) (pmk_oex T.x_BadDay.T T.x_BadDay.iC T.x_BadDay.tI (ok_BadDay___init T) (hr.mono (by decide)) T.x_BadDay.b .nil passL rfl T.x_BadDay.g (pa_cons pe_str pa_nil))))
      pss_nil)
      (pss_cons (ps_fld (pv 0) (pv 1) rfl)
      (pss_cons (ps_fld (pv 0) (pv 2) rfl)
      (pss_one (ps_fld (pv 0) (pv 3) rfl)))))))), ?_⟩
    have raise : ∀ (part : Str) (H1 : Hp), Same H H1 → DueD rds rm tm d2 d3 part → ∀ a, H1 a = none →
        spInitE T.x_BadDay.C "part" [.ref a, .str part] (upd H1 a (exo a T.x_BadDay.C none)) (fun v H2 => v = .non ∧ ∃ (d : Addr) (fs : List (Str × V)), H2 a = some (exo a T.x_BadDay.C (some d)) ∧ H2 d = some (exd d fs) ∧ H1 d = none ∧
          E (.ref T.x_BadDay.C) (some d) (upd (del H2 a) d (.xd fs))) (fun _ _ _ => False) := by
      intro part H1 s1 hdue a hA
      refine ⟨a, _, rfl, upd_same, fun d hd nd => ⟨rfl, d, [("part", .str part)], upd_same, ?_, ?_, ?_⟩⟩
      · rw [upd_ne nd, upd_same]
      · rw [upd_ne nd] at hd; exact hd
      · exact ke part hdue _ d (err_same s1 hA hd nd) upd_same
    refine ⟨_, rfl, _, rfl, h, pw, n, rds, v2, d2, rfl, W.o, r2, fun H1 s1 => ⟨_, rfl, ?_⟩⟩
    cases e1 : areLetters rds d2 with
    | false => exact iteT ⟨by show 1 ≤ 1000; decide, fun a hA => raise _ H1 s1 (.letters e1) a hA⟩
    | true =>
    refine iteF ?_
    obtain ⟨ls, rfl, o, l60⟩ := letters_inv e1
    refine ⟨_, rfl, _, rfl, h, v2, v3, ls, d3, rfl, r2.same s1, r3.same s1, by omega, fun H2 s2 => ⟨_, rfl, ?_⟩⟩
    have s12 := s1.trans s2
    cases e2 : areHours ls d3 with
    | false => exact iteT ⟨by show 1 ≤ 1000; decide, fun a hA => raise _ H2 s12 (.hours o l60 e2) a hA⟩
    | true =>
    refine iteF ?_
    obtain ⟨rows, rfl, ln⟩ := hours_inv e2
    obtain ⟨q3, _, rfl, _, _, _⟩ := rows_at r3
    have r1000 : ∀ r ∈ rows, r.length ≤ 1000 := fun r hr => by
      obtain ⟨k, hk, e⟩ := List.mem_iff_getElem.mp hr
      have hk2 : k < ls.length := by rw [← ln.1]; exact hk
      have := ln.2 k ls[k] r (List.getElem?_eq_getElem hk2) (by rw [List.getElem?_eq_getElem hk, e])
      have := (o.h ls[k] (List.getElem_mem hk2)).2.1
      omega
    refine ⟨_, rfl, _, rfl, _, rfl, h, pw, q3, v2, n, rds, rm, tm, ls, rows, rfl, W.same s12, r2.same s12, r3.same s12, o, ln.1, r1000, fun H3 s3 => ⟨_, rfl, ?_⟩⟩
    have s13 := s12.trans s3
    cases e3 : earlyB tm ls rows with
    | true => exact iteT ⟨by show 1 ≤ 1000; decide, fun a hA => raise _ H3 s13 (.early o l60 ln e3) a hA⟩
    | false =>
    refine iteF ?_
    refine ⟨_, rfl, _, rfl, _, rfl, h, pw, q3, v2, n, rds, rm, tm, ls, rows, rfl, W.same s13, r2.same s13, r3.same s13, o, l60, ln.1, ln.2, fun H4 s4 => ⟨_, rfl, ?_⟩⟩
    have sm := s13.trans s4
    cases e4 : fullB rm ls rows with
    | true => exact iteT ⟨by show 1 ≤ 1000; decide, fun a hA => raise _ H4 sm (.full o l60 ln e3 e4) a hA⟩
    | false =>
    refine iteF ?_
    have no : ∀ f ∈ (["web", "letters", "hours"] : List Str), NoAttr K T.Day.C f := T.Day.no
    refine ⟨_, rfl, _, rfl, p, T.Day.C, dx, _, rfl, sm _ _ hp, T.Day.cl, no _ (by simp), (by decide), ?_⟩
    refine ⟨_, rfl, _, rfl, p, T.Day.C, dx, _, rfl, upd_same, T.Day.cl, no _ (by simp), (putF_lt (n := 999) (by decide)), ?_⟩
    refine ⟨_, rfl, _, rfl, p, T.Day.C, dx, _, rfl, upd_same, T.Day.cl, no _ (by simp), (putF_lt (n := 999) (putF_lt (n := 998) (by decide))), ?_⟩
    refine kq ls rows rfl rfl ⟨o, l60, ln, e3, e4⟩ _ (fun b o q n => ?_) upd_same
    rw [upd_ne n, upd_ne n, upd_ne n]
    exact sm _ _ q
end
end Hc


set_option Elab.async false
set_option linter.all false
set_option maxRecDepth 100000
set_option maxHeartbeats 1000000
set_option autoImplicit false
namespace PySem.W
open PySem PySem.Spec PyProof.Rows
section
variable {prog : Program} {w : World} {A : Around} {E : Value → Shared → Prop} {s : Shared} {K : Frag} {x C L f : Addr} {h₀ : Heap} {m : Str → Option Value} {ox : Obj} {od : Option Obj} {name : Str} {b tb : Value}
theorem ifBound_KB {M : Model} {args : List Value} {id : String} {Q : Option Value → Shared → Prop} (X : K.In s.heap) (I : InstAt s.heap x ox C od) (hs : findIn K (.ref C) name = some (some (.builtin id))) (hb : ∀ self, bindSpecial (.builtin id) self = pure (.builtin id, [self]))
    (h : wpAny M A (call (.builtin id) (.ref x :: args)) (fun v => Q (some v)) E s) : wpAny M A (callSpecialIfBound? (.ref x) name args) Q E s := by
  simp only [callSpecialIfBound?, bindSpecialIfBound?]
  refine wpAny_holding (wpAny_bind (wpAny_bind (wpAny_bind (I.type.here ((looks_findIn X hs).here ?_)))))
  simp only [hb]
  refine wpAny_bind (wpAny_askSetting (wpAny_ite ?_))
  have fin : wpAny M A (call (.builtin id) ([.ref x] ++ args) >>= fun v => pure (some v)) Q E s := wpAny_bind (wpAny_mono h (fun v s' h' => wpAny_pure h') fun _ _ h' => h')
  split
  · exact wpAny_bind (wpAny_pure (wpAny_pure fin))
  · exact wpAny_tryCatch (wpAny_bind (wpAny_pure (wpAny_pure fin)))
theorem objNe_entry_K (X : K.In s.heap) (I : InstAt s.heap x ox C od) (hs : findIn K (.ref C) "__eq__" = some (some (.ref f))) (hf : isFn K (.ref f) = true) (hu : A.units < cLine) {Q : Fin → Shared → Prop}
    (hcall : wpAny (model prog w) A (call (.ref f) [.ref x, b]) (fun v s' => ∃ c, v = .bool c ∧ Q (.done (.ret (.bool (!c)))) s') E s) :
    wpAny (model prog w) A (Builtin.«object.__ne__» ⟨[.ref x, b], []⟩) Q E s := by
  unfold Builtin.«object.__ne__»
  repeat (first
    | with_reducible refine wpAny_cRoomFor hu ?_
    | (refine wpAny_bind (m := callSpecialIfBound? (.ref x) (Str.ofString "__eq__") [b])
        (ifBound_K X I hs hf (wpAny_mono hcall (fun r s' hr => by
          obtain ⟨c, rfl, hq⟩ := hr
          repeat (first | exact hq | exact wpAny_pure hq | exact wpAny_truthy_bool hq | (refine wpAny_bind (m := truthy (.bool _)) (wpAny_truthy_bool ?_)) | wp_step)) fun _ _ e => e)))
    | wp_step)
theorem check_slot_K {M : Model} {id owner n : String} {rest : List Value} {Q : Unit → Shared → Prop} (X : K.In s.heap) (I : InstAt s.heap x ox C od) (hk : builtinKind id = some .slot) (hs : splitId id = some (owner, n))
    (ha : argsOk id ⟨.ref x :: rest, []⟩) (hsub : subIn K (.ref C) (.type owner) = some true) (hq : Q () s) :
    wpAny M A (checkBuiltinCall id ⟨.ref x :: rest, []⟩) Q E s := by
  simp only [checkBuiltinCall, hk, hs]
  refine wpAny_bind ?_
  · unfold isInstance
    refine wpAny_bind (I.type.here ?_)
    refine (looks_subIn X hsub).here ?_
    cases hsig : Manifest.signature? id with
    | none => repeat (first | exact wpAny_pure hq | exact hq | wp_step)
    | some sig =>
      simp only [argsOk, hsig] at ha
      have h2 : Bind.checkArgs id sig ⟨.ref x :: rest, []⟩ = pure () := ha
      repeat (first | (rw [h2]; exact wpAny_pure hq) | exact wpAny_pure hq | exact hq | wp_step)
theorem ne_K {Q : Value → Shared → Prop} (hu : A.units + 1 < cLine) (F : Fr h₀ L s.heap m) (X₀ : K.In h₀) (I : InstAt s.heap x ox C od) (hb : Looks (model prog w) s.heap (typeOf b) tb) (hn : notFirst K C tb = true)
    (hs : findIn K (.ref C) "__eq__" = some (some (.ref f))) (hf : isFn K (.ref f) = true) (hne : findIn K (.ref C) "__ne__" = some (some (.builtin "object.__ne__"))) (hsub : subIn K (.ref C) (.type "object") = some true)
    (h : wpAny (model prog w) A.in1 (call (.ref f) [.ref x, b]) (fun v s' => ∃ c, v = .bool c ∧ Q (.bool (!c)) s') E s) : wpAny (model prog w) A (richCompare .NotEq (.ref x) b) Q E s := by
  have X := X₀.keeps F.keep
  have one : wpAny (model prog w) A (tryCompare (.ref x) "__ne__" b) (fun r s' => ∃ v, r = some v ∧ Q v s') E s := by
    simp only [tryCompare]
    refine wpAny_bind (ifBound_KB X I hne PySem.F.cmp_object.ne.bind (wpAny_call (codeAny_call_builtin PySem.F.cmp_object.ne.plain PySem.F.cmpEntry_ne
      (check_slot_K X I PySem.F.cmpKind_ne PySem.F.cmpSplit_ne (PySem.F.cmpArgs_ne _ _) hsub (objNe_entry_K (A := A.in1) X I hs hf hu (wpAny_mono h (fun v s' hv => ?_) fun _ _ e => e))))))
    obtain ⟨c, rfl, hq⟩ := hv
    first | exact ⟨c, rfl, wpAny_pure ⟨_, rfl, hq⟩⟩ | exact ⟨c, rfl, wpAny_pure (wpAny_pure ⟨_, rfl, hq⟩)⟩
  unfold richCompare
  simp only [oneThing_ref]
  refine wpAny_holding (wpAny_bind (wpAny_cRoomFor (Nat.lt_of_succ_lt hu) ?_))
  refine wpAny_bind (I.type.here (wpAny_bind (hb.here ?_)))
  split
  · rename_i q
    have e : subIn K tb (.ref C) = some false := by
      rcases Bool.or_eq_true_iff.mp hn with e | e
      · rw [beq_iff_eq.mp e] at q; simp at q
      · exact beq_iff_eq.mp e
    refine wpAny_bind ((looks_subIn X e).here ?_)
    simp only [Bool.false_eq_true, if_false]
    refine wpAny_bind (wpAny_mono one (fun r s' z => ?_) fun _ _ e => e)
    obtain ⟨v, rfl, hq⟩ := z
    exact wpAny_pure hq
  · refine wpAny_bind (wpAny_pure ?_)
    simp only [Bool.false_eq_true, if_false]
    refine wpAny_bind (wpAny_mono one (fun r s' z => ?_) fun _ _ e => e)
    obtain ⟨v, rfl, hq⟩ := z
    exact wpAny_pure hq
end
end PySem.W
namespace L2
open PySem PySem.Spec PyProof.Rows
/-- a call of an own def from within a built-in one -/
theorem run_fnR1 {X : Cx} {pins : List (Addr × Obj)} {σ : St} {H : Hp} {s : Shared} {CX : CXT} {k : Nat} {f : Addr} {sp : Sp} {E : XK} {Q : VK} {us : List Value} {vs : List V} (F : FnR X.prog X.w X.K X.mg X.base CX k f sp) (hr : Room (k + 1) X.A) (hx : Passes CX X E) (I : Inv X pins σ H s) (r : Vals vs us) (h : sp vs H Q E) :
    codeAny (model X.prog X.w) X.A.in1 (.call (.ref f) ⟨us, []⟩) (fun r s' => match r with | .ok (.ret v) => EP X pins σ Q v s' | .ok _ => False | .error e => X.xe e s') s := by
  refine codeAny_mono (F X.A.in1 X.stack s H us vs Q E hr.in1 I.env0.in1 r h) fun r s' hq => ?_
  cases r with
  | error e => exact hx pins σ H s e s' I hq
  | ok fl =>
    cases fl with
    | ret u => exact I.after hq
    | next => exact False.elim hq
    | brk => exact False.elim hq
    | cont => exact False.elim hq
/-- x == y, x an instance of the own class at C whose __eq__ is at f, y of any type T that is not below C -/
def rEqO (K : PySem.W.Frag) (C : Addr) (sp : Sp) (E : XK) : R2 := fun x y H Q => ∃ a dx fs t, x = .ref a ∧ H a = some (.ins C dx fs) ∧ TyX K H y t ∧ PySem.W.notFirst K C t = true ∧ sp [x, y] H Q E
theorem op_eqO {X : Cx} {CX : CXT} {C f : Addr} {sp : Sp} {E : XK} {n : Nat} (F : FnR X.prog X.w X.K X.mg X.base CX n f sp)
    (hs : PySem.W.findIn X.K (.ref C) "__eq__" = some (some (.ref f))) (hf : PySem.W.isFn X.K (.ref f) = true) (hr : Room n X.A) (hx : Passes CX X E) : OpR X (compareOp .Eq) (rEqO X.K C sp E) := by
  intro pins s σ H x y v u Q I rx ry h
  obtain ⟨a, dx, fs, t, rfl, ha, ht, hn, q⟩ := h
  cases (show v = Value.ref a from rx)
  obtain ⟨mA, J, _⟩ := ins_get I.hok ha
  obtain ⟨od, J, _⟩ := J.look
  obtain ⟨P, Z, p, _⟩ := kit_of I ry ht
  obtain ⟨m, hF⟩ := I.fr
  show wpAny (model X.prog X.w) X.A (richCompare .Eq (.ref a) u) _ _ _
  refine PySem.W.cmp_K (op := .Eq) (tb := t) hr.units0 hF I.ok.mod.kin J (Z.ty _ _ I.kIn p) hn hs hf ?_
  refine wpAny_mono (wpAny_call (run_fnR (us := [.ref a, u]) (vs := [.ref a, y]) F hr hx I (.cons rfl (.cons ry .nil)) q)) (fun w s' z => ?_) fun _ _ x => x
  obtain ⟨z', H', I', rz, qz⟩ := z
  exact SlX.cmpback rz ⟨z', H', I', rz, qz⟩
/-- x != y, by the same __eq__ -/
def rNeO (K : PySem.W.Frag) (C : Addr) (sp : Sp) (E : XK) : R2 := fun x y H Q => ∃ a dx fs t, x = .ref a ∧ H a = some (.ins C dx fs) ∧ TyX K H y t ∧ PySem.W.notFirst K C t = true ∧ sp [x, y] H (fun v H' => ∃ c, v = .bl c ∧ Q (.bl (!c)) H') E
theorem op_neO {X : Cx} {CX : CXT} {C f : Addr} {sp : Sp} {E : XK} {n : Nat} (F : FnR X.prog X.w X.K X.mg X.base CX n f sp)
    (hs : PySem.W.findIn X.K (.ref C) "__eq__" = some (some (.ref f))) (hf : PySem.W.isFn X.K (.ref f) = true) (hne : PySem.W.findIn X.K (.ref C) "__ne__" = some (some (.builtin "object.__ne__"))) (hsub : PySem.W.subIn X.K (.ref C) (.type "object") = some true)
    (hr : Room (n + 1) X.A) (hx : Passes CX X E) : OpR X (compareOp .NotEq) (rNeO X.K C sp E) := by
  intro pins s σ H x y v u Q I rx ry h
  obtain ⟨a, dx, fs, t, rfl, ha, ht, hn, q⟩ := h
  cases (show v = Value.ref a from rx)
  obtain ⟨mA, J, _⟩ := ins_get I.hok ha
  obtain ⟨od, J, _⟩ := J.look
  obtain ⟨P, Z, p, _⟩ := kit_of I ry ht
  obtain ⟨m, hF⟩ := I.fr
  show wpAny (model X.prog X.w) X.A (richCompare .NotEq (.ref a) u) _ _ _
  refine PySem.W.ne_K (tb := t) hr.in1.units0 hF I.ok.mod.kin J (Z.ty _ _ I.kIn p) hn hs hf hne hsub ?_
  refine wpAny_mono (wpAny_call (run_fnR1 (us := [.ref a, u]) (vs := [.ref a, y]) F hr hx I (.cons rfl (.cons ry .nil)) q)) (fun w s' z => ?_) fun _ _ x => x
  obtain ⟨z', H', I', rz, c, rfl, qz⟩ := z
  exact ⟨c, rz, .bl (!c), H', I', rfl, qz⟩
end L2


set_option Elab.async false
set_option linter.all false
set_option maxRecDepth 100000
set_option maxHeartbeats 1000000
set_option autoImplicit false
namespace Hc
open PySem L2
/-! things of ints, None and tuples, at most n deep, as data -/
def isIn : Nat → D → Bool
  | _, .int _ => true
  | _, .non => true
  | n + 1, .tup ds => ds.all (isIn n)
  | _, _ => false
def pDn : Nat → D → PyData
  | _, .int i => .int i
  | n + 1, .tup ds => .tuple (ds.map (pDn n))
  | _, _ => .none
theorem isIn_tup {n : Nat} {ds : List D} : isIn (n + 1) (.tup ds) = ds.all (isIn n) := rfl
theorem isIn_int {n : Nat} {i : Int} : isIn n (.int i) = true := by cases n <;> rfl
theorem isIn_non {n : Nat} : isIn n .non = true := by cases n <;> rfl
theorem pDn_tup {n : Nat} {ds : List D} : pDn (n + 1) (.tup ds) = .tuple (ds.map (pDn n)) := rfl
theorem pDn_int {n : Nat} {i : Int} : pDn n (.int i) = .int i := by cases n <;> rfl
theorem pDn_non {n : Nat} : pDn n .non = .none := by cases n <;> rfl
theorem isIn_ints {n : Nat} (l : List Int) : (l.map D.int).all (isIn n) = true := by
  rw [List.all_eq_true]
  intro d hd
  obtain ⟨i, _, rfl⟩ := List.mem_map.mp hd
  exact isIn_int
theorem layP : ∀ n : Nat, ∀ d : D, (pDn n d).canLay0 = true ∧ (pDn n d).depth ≤ n
  | n, .int i => by rw [pDn_int]; exact ⟨rfl, Nat.zero_le _⟩
  | n, .non => by rw [pDn_non]; exact ⟨rfl, Nat.zero_le _⟩
  | 0, .str s => ⟨rfl, Nat.zero_le _⟩
  | n + 1, .str s => ⟨rfl, Nat.zero_le _⟩
  | 0, .bl b => ⟨rfl, Nat.zero_le _⟩
  | n + 1, .bl b => ⟨rfl, Nat.zero_le _⟩
  | 0, .lst => ⟨rfl, Nat.zero_le _⟩
  | n + 1, .lst => ⟨rfl, Nat.zero_le _⟩
  | 0, .dct => ⟨rfl, Nat.zero_le _⟩
  | n + 1, .dct => ⟨rfl, Nat.zero_le _⟩
  | 0, .tup ds => ⟨rfl, Nat.zero_le _⟩
  | n + 1, .tup ds => by
    have key : ∀ ds : List D, PyData.canLayAll0 (ds.map (pDn n)) = true ∧ PyData.depthAll (ds.map (pDn n)) ≤ n := by
      intro ds
      induction ds with
      | nil => exact ⟨rfl, Nat.zero_le _⟩
      | cons d ds ih =>
        obtain ⟨h3, h4⟩ := layP n d
        refine ⟨?_, ?_⟩
        · show ((pDn n d).canLay0 && PyData.canLayAll0 (ds.map (pDn n))) = true
          rw [h3, ih.1]; rfl
        · show max (pDn n d).depth (PyData.depthAll (ds.map (pDn n))) ≤ n
          omega
    refine ⟨(key ds).1, ?_⟩
    show PyData.depthAll (ds.map (pDn n)) + 1 ≤ n + 1
    have := (key ds).2
    omega
theorem shP {n : Nat} (h : n ≤ 64) (d : D) : SeqAt.shaped (pDn n d) = true := by
  obtain ⟨h1, h2⟩ := layP n d
  show ((pDn n d).canLay0 && decide ((pDn n d).depth ≤ 64)) = true
  rw [h1, decide_eq_true (by omega)]; rfl
theorem eqP : ∀ (n : Nat) (a b : D), isIn n a = true → isIn n b = true → (PyData.eqv (pDn n a) (pDn n b) = true ↔ a = b) := by
  intro n
  induction n with
  | zero =>
    intro a b ha hb
    cases a <;> cases b <;> simp_all [isIn, pDn, PyData.eqv]
  | succ n ih =>
    intro a b ha hb
    have key : ∀ xs ys : List D, xs.all (isIn n) = true → ys.all (isIn n) = true → (PyData.eqvAll (xs.map (pDn n)) (ys.map (pDn n)) = true ↔ xs = ys) := by
      intro xs
      induction xs with
      | nil =>
        intro ys _ _
        cases ys with
        | nil => simp [PyData.eqvAll]
        | cons y ys => simp [PyData.eqvAll]
      | cons x xs ih2 =>
        intro ys hx hy
        cases ys with
        | nil => simp [PyData.eqvAll]
        | cons y ys =>
          rw [List.all_cons, Bool.and_eq_true] at hx hy
          rw [List.map_cons, List.map_cons]
          simp only [PyData.eqvAll, Bool.and_eq_true, List.cons.injEq]
          rw [ih x y hx.1 hy.1, ih2 ys hx.2 hy.2]
    cases a with
    | tup xs =>
      cases b with
      | tup ys =>
        have e : PyData.eqv (pDn (n + 1) (.tup xs)) (pDn (n + 1) (.tup ys)) = PyData.eqvAll (xs.map (pDn n)) (ys.map (pDn n)) := by
          rw [pDn_tup, pDn_tup]; simp only [PyData.eqv]
        rw [e, key xs ys ha hb]
        constructor
        · intro h; rw [h]
        · intro h; injection h
      | _ => simp_all [isIn, pDn, PyData.eqv]
    | _ => cases b <;> simp_all [isIn, pDn, PyData.eqv]
section
variable {K : PySem.W.Frag} {H : Hp} {h : Addr}
theorem dpP : ∀ (n : Nat) {v : V} {d : D}, Rp H h v d → isIn n d = true → Dp K H v (pDn n d) := by
  intro n
  induction n with
  | zero =>
    intro v d r i
    cases r with
    | non => exact .non
    | int j => exact .int j
    | _ => exact Bool.noConfusion i
  | succ n ih =>
    intro v d r i
    cases r with
    | non => exact .non
    | int j => exact .int j
    | @tup a xs ds e z ra =>
      refine .tup (SqT.of e) ?_
      have i : ds.all (isIn n) = true := i
      clear e z
      induction ds generalizing xs with
      | nil => cases ra; exact .nil
      | cons d ds ih2 =>
        cases ra with
        | cons r1 r2 =>
          rw [List.all_cons, Bool.and_eq_true] at i
          exact .cons (ih r1 i.1) (ih2 r2 i.2 i.2)
    | _ => exact Bool.noConfusion i
theorem eqDP {n : Nat} (hn : n ≤ 64) {v w : V} {a b : D} {Q : VK} (r1 : Rp H h v a) (r2 : Rp H h w b) (i1 : isIn n a = true) (i2 : isIn n b = true) (k : ∀ c : Bool, (c = true ↔ a = b) → Q (.bl c) H) : rEqD K v w H Q :=
  ⟨_, _, dpP n r1 i1, dpP n r2 i2, shP hn a, shP hn b, k _ (eqP n a b i1 i2)⟩
theorem neDP {n : Nat} (hn : n ≤ 64) {v w : V} {a b : D} {Q : VK} (r1 : Rp H h v a) (r2 : Rp H h w b) (i1 : isIn n a = true) (i2 : isIn n b = true) (k : ∀ c : Bool, (c = true ↔ a ≠ b) → Q (.bl c) H) : rNeD K v w H Q := by
  refine ⟨_, _, dpP n r1 i1, dpP n r2 i2, shP hn a, shP hn b, k _ ?_⟩
  have := eqP n a b i1 i2
  rw [Bool.not_eq_true']
  constructor
  · intro z e
    rw [this.mpr e] at z; cases z
  · intro z
    cases g : PyData.eqv (pDn n a) (pDn n b) with
    | false => rfl
    | true => exact absurd (this.mp g) z
end
end Hc


set_option Elab.async false
set_option linter.all false
set_option maxRecDepth 100000
set_option maxHeartbeats 1000000
set_option autoImplicit false
namespace L2
open PySem PySem.Spec PyProof.Rows
/-- one of two readings -/
theorem op_alt {X : Cx} {f : Value → Value → Sem Value} {r1 r2 : R2} (a : OpR X f r1) (b : OpR X f r2) : OpR X f (fun x y H Q => r1 x y H Q ∨ r2 x y H Q) := by
  intro pins s σ H x y v u Q I rx ry h
  rcases h with h | h
  · exact a pins s σ H x y v u Q I rx ry h
  · exact b pins s σ H x y v u Q I rx ry h
end L2
namespace Hc
open PySem L2
theorem isIn_noL : ∀ (n : Nat) {d : D}, isIn n d = true → noL d = true := by
  intro n
  induction n with
  | zero =>
    intro d i
    cases d with
    | int j => rfl
    | non => rfl
    | _ => exact Bool.noConfusion i
  | succ n ih =>
    intro d i
    cases d with
    | int j => rfl
    | non => rfl
    | tup ds =>
      have i : ds.all (isIn n) = true := i
      show noLs ds = true
      induction ds with
      | nil => rfl
      | cons d ds ih2 =>
        rw [List.all_cons, Bool.and_eq_true] at i
        show (noL d && noLs ds) = true
        rw [ih i.1, ih2 i.2]
        · rfl
        · exact i.2
    | _ => exact Bool.noConfusion i
theorem isIn_rds {n : Int} : ∀ {rds : List D}, rds.all (isBE n) = true → rds.all (isIn 1) = true
  | [], _ => rfl
  | d :: rds, e => by
    rw [List.all_cons, Bool.and_eq_true] at e
    obtain ⟨a, b, rfl, _⟩ := be_full e.1
    rw [List.all_cons, isIn_rds e.2]; rfl
theorem isIn_lt (l : Lt) : isIn 2 (ltD l) = true := by
  show ((isIn 1 (nD l.1)) && (isIn 1 (.int l.2) && true)) = true
  have h : isIn 1 (nD l.1) = true := by
    show (l.1.map fun j => D.int (j : Nat)).all (isIn 0) = true
    rw [List.all_eq_true]
    intro d hd
    obtain ⟨j, _, rfl⟩ := List.mem_map.mp hd
    rfl
  rw [h]; rfl
theorem isIn_lts (ls : List Lt) : isIn 3 (ltsD ls) = true := by
  show (ls.map ltD).all (isIn 2) = true
  rw [List.all_eq_true]
  intro d hd
  obtain ⟨l, _, rfl⟩ := List.mem_map.mp hd
  exact isIn_lt l
theorem isIn_rows (rows : List (List Int)) : isIn 3 (rowsD rows) = true := by
  show (rows.map rowD).all (isIn 2) = true
  rw [List.all_eq_true]
  intro d hd
  obtain ⟨r, _, rfl⟩ := List.mem_map.mp hd
  exact isIn_ints r
theorem wF_h (v1 v2 v3 v4 : V) : (webF v1 v2 v3 v4).lookup ("houses" : Str) = some v1 := by
  have h1 : ¬ (("houses" : Str) = "times") := by decide +kernel
  have h2 : ¬ (("houses" : Str) = "rooms") := by decide +kernel
  have h3 : ¬ (("houses" : Str) = "roads") := by decide +kernel
  unfold webF
  rw [lookup_putF, if_neg h1, lookup_putF, if_neg h2, lookup_putF, if_neg h3, lookup_putF, if_pos rfl]
theorem dF_w (v1 v2 v3 : V) : (dayF v1 v2 v3).lookup ("web" : Str) = some v1 := by
  unfold dayF
  rw [lookup_putF, if_neg ne_wh, lookup_putF, if_neg ne_wl, lookup_putF, if_pos rfl]
theorem dF_l (v1 v2 v3 : V) : (dayF v1 v2 v3).lookup ("letters" : Str) = some v2 := by
  unfold dayF
  rw [lookup_putF, if_neg (fun z => ne_hl z), lookup_putF, if_pos rfl]
theorem dF_h (v1 v2 v3 : V) : (dayF v1 v2 v3).lookup ("hours" : Str) = some v3 := by
  unfold dayF
  rw [lookup_putF, if_pos rfl]
/-- a web's object, all its parts known -/
structure WebX (C : Addr) (H : Hp) (h p : Addr) (n : Int) (rds : List D) (rm tm : List Int) : Prop where
  ex : ∃ (dx : Addr) (v2 v3 v4 : V), H p = some (.ins C dx (webF (.int n) v2 v3 v4)) ∧ Rp H h v2 (.tup rds) ∧ Rp H h v3 (.tup (rm.map D.int)) ∧ Rp H h v4 (.tup (tm.map D.int))
  w : WebR C H h p n rds rm tm
theorem WebX.nl {C : Addr} {H H' : Hp} {h p : Addr} {n : Int} {rds : List D} {rm tm : List Int} (x : WebX C H h p n rds rm tm) (k : NL H H') : WebX C H' h p n rds rm tm := by
  obtain ⟨dx, v2, v3, v4, e, r2, r3, r4⟩ := x.ex
  exact ⟨⟨dx, v2, v3, v4, k _ _ e (fun _ z => by cases z), r2.nl k (noL_be x.w.all), r3.nl k (noL_int _), r4.nl k (noL_int _)⟩, x.w.nl k⟩
theorem WebX.same {C : Addr} {H H' : Hp} {h p : Addr} {n : Int} {rds : List D} {rm tm : List Int} (x : WebX C H h p n rds rm tm) (s : Same H H') : WebX C H' h p n rds rm tm := x.nl (NL.of s)
/-- a day's object, all its parts known -/
structure DayX (C CW : Addr) (H : Hp) (h p : Addr) (n : Int) (rds : List D) (rm tm : List Int) (dl dh : D) : Prop where
  ex : ∃ (dx : Addr) (fs : List (Str × V)) (pw : Addr) (v2 v3 : V), H p = some (.ins C dx fs) ∧ fs.length ≤ 100 ∧ fs.lookup ("web" : Str) = some (.ref pw) ∧ fs.lookup ("letters" : Str) = some v2 ∧ fs.lookup ("hours" : Str) = some v3 ∧ WebX CW H h pw n rds rm tm ∧ Rp H h v2 dl ∧ Rp H h v3 dh
  il : isIn 3 dl = true
  ih : isIn 3 dh = true
theorem DayX.nl {C CW : Addr} {H H' : Hp} {h p : Addr} {n : Int} {rds : List D} {rm tm : List Int} {dl dh : D} (x : DayX C CW H h p n rds rm tm dl dh) (k : NL H H') : DayX C CW H' h p n rds rm tm dl dh := by
  obtain ⟨dx, fs, pw, v2, v3, e, l1, fw, fl, fh, W, r2, r3⟩ := x.ex
  exact ⟨⟨dx, fs, pw, v2, v3, k _ _ e (fun _ z => by cases z), l1, fw, fl, fh, W.nl k, r2.nl k (isIn_noL 3 x.il), r3.nl k (isIn_noL 3 x.ih)⟩, x.il, x.ih⟩
theorem DayX.same {C CW : Addr} {H H' : Hp} {h p : Addr} {n : Int} {rds : List D} {rm tm : List Int} {dl dh : D} (x : DayX C CW H h p n rds rm tm dl dh) (s : Same H H') : DayX C CW H' h p n rds rm tm dl dh := x.nl (NL.of s)
theorem DayX.o {C CW : Addr} {H : Hp} {h p : Addr} {n : Int} {rds : List D} {rm tm : List Int} {ls : List Lt} {rows : List (List Int)} (x : DayX C CW H h p n rds rm tm (ltsD ls) (rowsD rows)) : DayO C CW H h p n rds rm tm ls rows := by
  obtain ⟨dx, fs, pw, v2, v3, e, l1, fw, fl, fh, W, r2, r3⟩ := x.ex
  exact ⟨dx, fs, pw, v2, v3, e, l1, fw, fl, fh, W.w, r2, r3⟩
section
variable {P : Program} {w : World} {K : PySem.W.Frag} {mg : Str → Option Value} {base : Heap}
def spWebEq (K : PySem.W.Frag) (C : Addr) : Sp := fun vs H Q _ =>
  (∃ (h p q : Addr) (n n' : Int) (rds rds' : List D) (rm tm rm' tm' : List Int), vs = [.ref p, .ref q] ∧ WebX C H h p n rds rm tm ∧ WebX C H h q n' rds' rm' tm' ∧ ∀ c : Bool, (c = true ↔ (n = n' ∧ rds = rds' ∧ rm = rm' ∧ tm = tm')) → Q (.bl c) H) ∨
  (∃ (p : Addr) (y : V) (t : Value), vs = [.ref p, y] ∧ TyX K H y t ∧ PySem.W.kitOne K t (.ref C) = some false ∧ Q (.bl false) H)
theorem tup_eq {a b : List D} : (D.tup a = D.tup b) ↔ a = b := ⟨fun e => by injection e, fun e => by rw [e]⟩
theorem nfSelf {K : PySem.W.Frag} {C : Addr} : PySem.W.notFirst K C (.ref C) = true := by
  unfold PySem.W.notFirst
  simp
theorem nfOf {K : PySem.W.Frag} {C : Addr} {t : Value} (h : PySem.W.subIn K t (.ref C) = some false) : PySem.W.notFirst K C t = true := by
  unfold PySem.W.notFirst
  rw [h]; simp
theorem eqWO (T : Tx K mg) {H : Hp} {h p : Addr} {y : V} {t : Value} {n : Int} {rds : List D} {rm tm : List Int} {Q : VK} {E : XK} (W : WebX T.Web.C H h p n rds rm tm) (ty : TyX K H y t) (f : PySem.W.subIn K t (.ref T.Web.C) = some false ∧ PySem.W.kitOne K t (.ref T.Web.C) = some false)
    (k : Q (.bl false) H) : rEqO K T.Web.C (spWebEq K T.Web.C) E (.ref p) y H Q := by
  obtain ⟨dx, v2, v3, v4, ep, _⟩ := W.ex
  exact ⟨p, dx, _, _, rfl, ep, ty, nfOf f.1, .inr ⟨p, y, t, rfl, ty, f.2, k⟩⟩
theorem neWO (T : Tx K mg) {H : Hp} {h p : Addr} {y : V} {t : Value} {n : Int} {rds : List D} {rm tm : List Int} {Q : VK} {E : XK} (W : WebX T.Web.C H h p n rds rm tm) (ty : TyX K H y t) (f : PySem.W.subIn K t (.ref T.Web.C) = some false ∧ PySem.W.kitOne K t (.ref T.Web.C) = some false)
    (k : Q (.bl true) H) : rNeO K T.Web.C (spWebEq K T.Web.C) E (.ref p) y H Q := by
  obtain ⟨dx, v2, v3, v4, ep, _⟩ := W.ex
  exact ⟨p, dx, _, _, rfl, ep, ty, nfOf f.1, .inr ⟨p, y, t, rfl, ty, f.2, false, rfl, k⟩⟩
def DSame (n n' : Int) (rds rds' : List D) (rm tm rm' tm' : List Int) (dl dh dl' dh' : D) : Prop := (n = n' ∧ rds = rds' ∧ rm = rm' ∧ tm = tm') ∧ dl = dl' ∧ dh = dh'
def spDayEq (K : PySem.W.Frag) (C CW : Addr) : Sp := fun vs H Q _ =>
  (∃ (h p q : Addr) (n n' : Int) (rds rds' : List D) (rm tm rm' tm' : List Int) (dl dh dl' dh' : D), vs = [.ref p, .ref q] ∧ DayX C CW H h p n rds rm tm dl dh ∧ DayX C CW H h q n' rds' rm' tm' dl' dh' ∧ ∀ c : Bool, (c = true ↔ DSame n n' rds rds' rm tm rm' tm' dl dh dl' dh') → Q (.bl c) H) ∨
  (∃ (p : Addr) (y : V) (t : Value), vs = [.ref p, y] ∧ TyX K H y t ∧ PySem.W.kitOne K t (.ref C) = some false ∧ Q (.bl false) H)
theorem eqDO (T : Tx K mg) {H : Hp} {h p : Addr} {y : V} {t : Value} {n : Int} {rds : List D} {rm tm : List Int} {dl dh : D} {Q : VK} {E : XK} (W : DayX T.Day.C T.Web.C H h p n rds rm tm dl dh) (ty : TyX K H y t) (f : PySem.W.subIn K t (.ref T.Day.C) = some false ∧ PySem.W.kitOne K t (.ref T.Day.C) = some false)
    (k : Q (.bl false) H) : rEqO K T.Day.C (spDayEq K T.Day.C T.Web.C) E (.ref p) y H Q := by
  obtain ⟨dx, fs, pw, v2, v3, ep, _⟩ := W.ex
  exact ⟨p, dx, _, _, rfl, ep, ty, nfOf f.1, .inr ⟨p, y, t, rfl, ty, f.2, k⟩⟩
theorem neDO (T : Tx K mg) {H : Hp} {h p : Addr} {y : V} {t : Value} {n : Int} {rds : List D} {rm tm : List Int} {dl dh : D} {Q : VK} {E : XK} (W : DayX T.Day.C T.Web.C H h p n rds rm tm dl dh) (ty : TyX K H y t) (f : PySem.W.subIn K t (.ref T.Day.C) = some false ∧ PySem.W.kitOne K t (.ref T.Day.C) = some false)
    (k : Q (.bl true) H) : rNeO K T.Day.C (spDayEq K T.Day.C T.Web.C) E (.ref p) y H Q := by
  obtain ⟨dx, fs, pw, v2, v3, ep, _⟩ := W.ex
  exact ⟨p, dx, _, _, rfl, ep, ty, nfOf f.1, .inr ⟨p, y, t, rfl, ty, f.2, false, rfl, k⟩⟩
end
end Hc


set_option Elab.async false
set_option linter.all false
set_option maxRecDepth 100000
set_option maxHeartbeats 2000000
set_option autoImplicit false
namespace Hc
open PySem L2
/-- f'..' of two parts or more, its reading kept as a name (a comprehension's item wants it so) -/
def tJoined (ts : List TE) : TE := fun σ H Q => tJs ts Str.empty σ H fun out H1 => Q (.str out) H1
theorem pe_joinedT {X : Cx} {v1 v2 : Expr} {rest : List Expr} {ts : List TE} {pos : Pos} (h : PJ X (v1 :: v2 :: rest) ts) : PE X (.JoinedStr (v1 :: v2 :: rest) pos) (tJoined ts) := pe_joined h
/-- a number's figures -/
def sn (i : Int) : Str := Str.ofString (toString i)
theorem tl_sn (n : Nat) : TL.tl (sn (n : Int)) = TL.numL n := TL.tl_num n
/-- lines, each closed -/
def closedS (ls : List Str) : Str := Txt.join "" (ls.map fun l => l ++ ("\n" : Str))
theorem joinL_nil : ∀ ps : List (List Nat), TL.joinL [] ps = ps.flatten
  | [] => rfl
  | [p] => by simp [TL.joinL]
  | p :: q :: r => by
    have ih := joinL_nil (q :: r)
    show p ++ ([] ++ TL.joinL [] (q :: r)) = _
    rw [ih]
    simp
theorem tl_nl : TL.tl ("\n" : Str) = [10] := by decide +kernel
theorem tl_sp : TL.tl (" " : Str) = [32] := by decide +kernel
theorem tl_e : TL.tl ("" : Str) = [] := by decide +kernel
theorem tl_closed (ls : List Str) : TL.tl (closedS ls) = (ls.map fun l => TL.tl l ++ [10]).flatten := by
  unfold closedS
  rw [TL.join_eq, TL.tl_join, tl_e, joinL_nil, List.map_map]
  congr 1
  refine List.map_congr_left fun l _ => ?_
  show TL.tl (l ++ ("\n" : Str)) = _
  rw [TL.tl_append, tl_nl]
theorem spl_closed : ∀ ls : List (List Nat), (∀ l ∈ ls, 10 ∉ l) → TL.spl [10] 0 [] (ls.map fun l => l ++ [10]).flatten = ls ++ [[]]
  | [], _ => TL.spl_nil _ _ _
  | l :: ls, h => by
    have ih := spl_closed ls fun m hm => h m (List.mem_cons_of_mem _ hm)
    have e : ((l :: ls).map fun l => l ++ [10]).flatten = l ++ ([10] ++ (ls.map fun l => l ++ [10]).flatten) := by simp
    rw [e, TL.spl_part1 (h l (List.mem_cons_self ..)), ih]
    rfl
theorem split_closed (ls : List Str) (h : ∀ l ∈ ls, 10 ∉ TL.tl l) : Txt.split (closedS ls) "\n" = ls ++ [("" : Str)] := by
  refine TL.map_tl_inj ?_
  rw [TL.split_spl _ _ (by rw [tl_nl]; simp) (TL.kind_ok (by decide +kernel)), tl_nl, tl_closed]
  have e := spl_closed (ls.map TL.tl) fun l hl => by
    obtain ⟨m, hm, rfl⟩ := List.mem_map.mp hl
    exact h m hm
  rw [List.map_map] at e
  rw [List.map_append, List.map_cons, List.map_nil, tl_e, ← e]
  rfl
theorem split_words {ws : List Str} (hn : ws ≠ []) (h : ∀ w ∈ ws, 32 ∉ TL.tl w) : Txt.split (Txt.join " " ws) " " = ws :=
  TL.split_join (s := 32) (S := []) tl_sp (by decide +kernel) hn h
/-- the line of a road -/
def fWeb (n : Int) : Str := (Str.empty ++ ("web " : Str)) ++ sn n
def fRoad (b e r t : Int) : Str := (((((((Str.empty ++ ("road " : Str)) ++ sn b) ++ (" " : Str)) ++ sn e) ++ (" " : Str)) ++ sn r) ++ (" " : Str)) ++ sn t
theorem tl_empty : TL.tl Str.empty = [] := rfl
theorem fWeb_join (n : Int) : fWeb n = Txt.join " " ["web", sn n] := by
  refine TL.ext_tl ?_
  rw [TL.join_eq, TL.tl_join]
  unfold fWeb
  simp only [TL.tl_append, tl_empty, tl_sp, List.map_cons, List.map_nil, TL.joinL]
  have e : TL.tl ("web " : Str) = TL.tl ("web" : Str) ++ [32] := by decide +kernel
  rw [e]
  simp
theorem fRoad_join (b e r t : Int) : fRoad b e r t = Txt.join " " ["road", sn b, sn e, sn r, sn t] := by
  refine TL.ext_tl ?_
  rw [TL.join_eq, TL.tl_join]
  unfold fRoad
  simp only [TL.tl_append, tl_empty, tl_sp, List.map_cons, List.map_nil, TL.joinL]
  have e : TL.tl ("road " : Str) = TL.tl ("road" : Str) ++ [32] := by decide +kernel
  rw [e]
  simp
def fPair (r h : Int) : Str := ((Str.empty ++ sn r) ++ (" " : Str)) ++ sn h
def fLetter (c : Int) (ps : List (Int × Int)) : Str := (((Str.empty ++ ("letter " : Str)) ++ sn c) ++ (" " : Str)) ++ Txt.join " " (ps.map fun p => fPair p.1 p.2)
def words2 (ps : List (Int × Int)) : List Str := (ps.map fun p => [sn p.1, sn p.2]).flatten
theorem joinL_cons2 (S p : List Nat) {ps : List (List Nat)} (h : ps ≠ []) : TL.joinL S (p :: ps) = p ++ (S ++ TL.joinL S ps) := by
  cases ps with
  | nil => exact absurd rfl h
  | cons q r => rfl
theorem joinL_pairs : ∀ ps : List (Int × Int), TL.joinL [32] ((ps.map fun p => fPair p.1 p.2).map TL.tl) = TL.joinL [32] ((words2 ps).map TL.tl)
  | [] => rfl
  | [p] => by
    show TL.tl (fPair p.1 p.2) = TL.joinL [32] [TL.tl (sn p.1), TL.tl (sn p.2)]
    unfold fPair
    simp only [TL.tl_append, tl_empty, tl_sp, TL.joinL]
    simp
  | p :: q :: r => by
    have ih := joinL_pairs (q :: r)
    have e : words2 (p :: q :: r) = sn p.1 :: sn p.2 :: words2 (q :: r) := by unfold words2; simp
    have hw : (words2 (q :: r)).map TL.tl ≠ [] := by unfold words2; simp
    rw [e]
    show TL.joinL [32] (TL.tl (fPair p.1 p.2) :: List.map TL.tl (List.map (fun p => fPair p.1 p.2) (q :: r))) = TL.joinL [32] (TL.tl (sn p.1) :: TL.tl (sn p.2) :: (words2 (q :: r)).map TL.tl)
    rw [joinL_cons2 [32] (TL.tl (fPair p.1 p.2)) (by simp), joinL_cons2 [32] (TL.tl (sn p.1)) (by simp), joinL_cons2 [32] (TL.tl (sn p.2)) hw, ih]
    unfold fPair
    simp only [TL.tl_append, tl_empty, tl_sp]
    simp
theorem fLetter_join (c : Int) {ps : List (Int × Int)} (h : ps ≠ []) : fLetter c ps = Txt.join " " ("letter" :: sn c :: words2 ps) := by
  refine TL.ext_tl ?_
  have hw : words2 ps ≠ [] := by
    cases ps with
    | nil => exact absurd rfl h
    | cons p r => unfold words2; simp
  unfold fLetter
  simp only [TL.tl_append]
  rw [TL.join_eq, TL.join_eq, TL.tl_join, TL.tl_join, tl_sp, joinL_pairs, List.map_cons, List.map_cons, joinL_cons2 _ _ (by simp), joinL_cons2 _ _ (by simpa using hw)]
  have e : TL.tl ("letter " : Str) = TL.tl ("letter" : Str) ++ [32] := by decide +kernel
  rw [e, tl_empty]
  simp
end Hc


set_option Elab.async false
set_option linter.all false
set_option maxRecDepth 100000
set_option maxHeartbeats 2000000
set_option autoImplicit false
namespace L2
open PySem PySem.Spec PyProof.Rows
/-- a list (k) or a tuple -/
def SqK (K : PySem.W.Frag) : Bool → Hp → Addr → List V → Prop
  | true => SqL K
  | false => SqT K
def HpSeq : Bool → Heap → Addr → Array Value → Prop
  | true => Heap.IsList
  | false => Heap.IsTuple
def HpIter : Bool → Heap → Addr → Addr → Nat → Prop
  | true => Heap.IsListIter
  | false => Heap.IsTupleIter
def itObj : Bool → Addr → Obj
  | true, a => { cls := .type "list_iterator", data := .fields #[.ref a, .int 0 0] }
  | false, a => { cls := .type "tuple_iterator", data := .fields #[.ref a, .int 0 0] }
theorem Inv.seqK {X : Cx} {pins : List (Addr × Obj)} {σ : St} {H : Hp} {s : Shared} (I : Inv X pins σ H s) {k : Bool} {a : Addr} {xs : List V} (q : SqK X.K k H a xs) : ∃ us : List Value, Vals xs us ∧ HpSeq k s.heap a us.toArray ∧ a < s.heap.objs.size := by
  cases k with
  | true =>
    obtain ⟨us, ru, pu, _⟩ := I.list q
    exact ⟨us, ru, pu.isList, pu.lt⟩
  | false =>
    obtain ⟨us, ru, pu, _⟩ := I.tuple q
    obtain ⟨o, ho, _⟩ := id pu
    exact ⟨us, ru, pu, Heap.lt_size ho⟩
theorem Inv.seqK_inj {X : Cx} {pins : List (Addr × Obj)} {σ : St} {H : Hp} {s : Shared} (I : Inv X pins σ H s) {k : Bool} {a : Addr} {xs ys : List V} (q : SqK X.K k H a xs) (r : SqK X.K k H a ys) : xs = ys := by
  cases k with
  | true => exact I.list_inj q r
  | false => exact I.tuple_inj q r
theorem drawsK {prog : Program} {w : World} {A : Around} (k : Bool) (hh : A.handled = none) (it l : Addr) (hne : l ≠ it) (items : Array Value) :
    Draws prog w A it [it, l] items.size (fun i v => items[i]? = some v) (fun i h => HpIter k h it l i ∧ HpSeq k h l items) := by
  cases k with
  | true => exact Draws.list hh it l hne items
  | false => exact Draws.tuple hh it l hne items
theorem beginsK (k : Bool) (l : Addr) (items : Array Value) : Begins (.ref l) (itObj k l) fun h => HpSeq k h l items := by
  cases k with
  | true => exact begins_list l items
  | false => exact begins_tuple l items
theorem HpIter.atK {k : Bool} {h h' : Heap} {i a : Addr} {n : Nat} (x : HpIter k h i a n) (q : ∀ o, h.get? i = some o → h'.get? i = some o) : HpIter k h' i a n := by
  cases k with
  | true => exact Heap.IsListIter.at x q
  | false => exact Heap.IsTupleIter.at x q
theorem HpIter.cell {k : Bool} {h : Heap} {i a : Addr} {n : Nat} (x : HpIter k h i a n) : ∃ o, h.get? i = some o ∧ ∀ v, o.data ≠ .cell v := by
  cases k with
  | true => obtain ⟨o, e, _, d⟩ := x; exact ⟨o, e, fun v q => by rw [d] at q; cases q⟩
  | false => obtain ⟨o, e, _, d⟩ := x; exact ⟨o, e, fun v q => by rw [d] at q; cases q⟩
theorem HpIter.begun {k : Bool} {h : Heap} {i a : Addr} (e : h.get? i = some (itObj k a)) : HpIter k h i a 0 := by
  cases k with
  | true => exact ⟨_, e, rfl, rfl⟩
  | false => exact ⟨_, e, rfl, rfl⟩
def Itz3 (K : PySem.W.Frag) (k1 k2 k3 : Bool) (a b c : Addr) : It where
  go i H := ∃ (xs ys zs : List V) (x y z : V), SqK K k1 H a xs ∧ SqK K k2 H b ys ∧ SqK K k3 H c zs ∧ xs[i]? = some x ∧ ys[i]? = some y ∧ zs[i]? = some z
  yld i H v H' := ∃ T x y z, v = .ref T ∧ H T = none ∧ H' = upd H T (.tup [x, y, z]) ∧ (∀ xs, SqK K k1 H a xs → xs[i]? = some x) ∧ (∀ ys, SqK K k2 H b ys → ys[i]? = some y) ∧ ∀ zs, SqK K k3 H c zs → zs[i]? = some z
  stop i H := ∃ xs ys zs : List V, SqK K k1 H a xs ∧ SqK K k2 H b ys ∧ SqK K k3 H c zs ∧ i ≤ xs.length ∧ i ≤ ys.length ∧ i ≤ zs.length ∧ (i = xs.length ∨ i = ys.length ∨ i = zs.length)
structure Z3At (k1 k2 k3 : Bool) (N a b c : Addr) (i : Nat) (h : Heap) : Prop where
  zip : IsZip h (N + 5) (N + 3) (N + 4) .none
  ins : IsTupOf3 h (N + 3) (.ref N) (.ref (N + 1)) (.ref (N + 2))
  out : ∃ x y z, IsTupOf3 h (N + 4) x y z
  it1 : HpIter k1 h N a i
  it2 : HpIter k2 h (N + 1) b i
  it3 : HpIter k3 h (N + 2) c i
theorem Z3At.cells {k1 k2 k3 : Bool} {N a b c : Addr} {i : Nat} {h : Heap} (st : Z3At k1 k2 k3 N a b c i h) {d : Addr} (hd : d ∈ [N + 5, N + 3, N + 4, N, N + 1, N + 2]) : ∃ o, h.get? d = some o ∧ ∀ v, o.data ≠ .cell v := by
  obtain ⟨hz, hI, ⟨x, y, z, hO⟩, h1, h2, h3⟩ := st
  simp only [List.mem_cons, List.not_mem_nil, or_false] at hd
  rcases hd with rfl | rfl | rfl | rfl | rfl | rfl
  · exact ⟨_, hz, fun v => nofun⟩
  · exact ⟨_, hI, fun v => nofun⟩
  · exact ⟨_, hO, fun v => nofun⟩
  · exact h1.cell
  · exact h2.cell
  · exact h3.cell
theorem vals_size {xs : List V} {us : List Value} (r : Vals xs us) : us.toArray.size = xs.length := by
  have := r.length
  simp only [List.size_toArray]; omega
theorem turn_zip3 {P : Program} {w : World} {K : PySem.W.Frag} {elts : List Expr} {kk : Nat} {tpos : Pos} {k1 k2 k3 : Bool} {N a b c : Addr} (la : a < N) (lb : b < N) (lc : c < N) :
    Turn P w K (.Tuple elts kk tpos) (Itz3 K k1 k2 k3 a b c) [N + 5, N + 3, N + 4, N, N + 1, N + 2] (N + 5) (Z3At k1 k2 k3 N a b c) where
  mem := List.mem_cons_self
  obj i h st c hc := st.cells hc
  keep i h h' st k := by
    obtain ⟨hz, hI, ⟨x, y, z, hO⟩, h1, h2, h3⟩ := st
    exact ⟨k _ (by simp) _ hz, k _ (by simp) _ hI, ⟨x, y, z, k _ (by simp) _ hO⟩, h1.atK fun o q => k _ (by simp) o q, h2.atK fun o q => k _ (by simp) o q, h3.atK fun o q => k _ (by simp) o q⟩
  item := by
    intro X hP hw hK hc i pins s σ H E I hf st hg
    subst hP hw hK
    have lcl : ∀ {c : Addr}, c ∈ [N + 5, N + 3, N + 4, N, N + 1, N + 2] → c < s.heap.objs.size := fun hm => let ⟨_, q, _⟩ := st.cells hm; Heap.lt_size q
    obtain ⟨hz, hI, ⟨x0, y0, z0, hO⟩, h1, h2, h3⟩ := st
    obtain ⟨xs, ys, zs, x, y, z, qx, qy, qz, hx, hy, hz'⟩ := hg
    obtain ⟨us, ru, pu, _⟩ := I.seqK qx
    obtain ⟨ws, rw', pw, _⟩ := I.seqK qy
    obtain ⟨ts, rt, pt, _⟩ := I.seqK qz
    have hh : X.A.in1.handled = none := I.ok.hd hc
    have S := zip_sep3 (N := N) (fp1 := [a]) (fp2 := [b]) (fp3 := [c]) (fun d hd => by rw [List.mem_singleton] at hd; subst hd; exact la) (fun d hd => by rw [List.mem_singleton] at hd; subst hd; exact lb) (fun d hd => by rw [List.mem_singleton] at hd; subst hd; exact lc)
    have nx : i < us.toArray.size := by rw [vals_size ru]; exact (List.getElem?_eq_some_iff.mp hx).1
    have ny : i < ws.toArray.size := by rw [vals_size rw']; exact (List.getElem?_eq_some_iff.mp hy).1
    have nz : i < ts.toArray.size := by rw [vals_size rt]; exact (List.getElem?_eq_some_iff.mp hz').1
    refine wpAny_pyNext_zipD3_item S (drawsK k1 hh N a (Nat.ne_of_lt la) us.toArray) (drawsK k2 hh (N + 1) b (Nat.ne_of_lt (Nat.lt_succ_of_lt lb)) ws.toArray) (drawsK k3 hh (N + 2) c (Nat.ne_of_lt (Nat.lt_succ_of_lt (Nat.lt_succ_of_lt lc))) ts.toArray) hz hI hO ⟨h1, pu⟩ ⟨h2, pw⟩ ⟨h3, pt⟩ nx ny nz
      fun x1 x2 x3 h' tk y1 y2 y3 z' O' s1 s2 s3 hT hsz hk => ?_
    obtain ⟨u1, eu1, r1⟩ := ru.get hx
    obtain ⟨u2, eu2, r2⟩ := rw'.get hy
    obtain ⟨u3, eu3, r3⟩ := rt.get hz'
    have e1 : x1 = u1 := Option.some.inj (y1.symm.trans (by simpa using eu1))
    have e2 : x2 = u2 := Option.some.inj (y2.symm.trans (by simpa using eu2))
    have e3 : x3 = u3 := Option.some.inj (y3.symm.trans (by simpa using eu3))
    subst e1 e2 e3
    have zlt : N + 5 < s.heap.objs.size := lcl (by simp)
    refine ⟨_, rfl, wpAny_letOwnedTupleGo_zip (s := { s with heap := h', toks := tk }) z' fun g gz sb => ?_⟩
    have gT : g.get? s.heap.objs.size = some { cls := .type "tuple", data := .seq #[x1, x2, x3] } := (sb.2 _ (Nat.ne_of_gt zlt)).trans hT
    have I1 : Inv X pins σ (upd H s.heap.objs.size (.tup [x, y, z])) { s with heap := g, toks := tk } :=
      I.turnedNew (ch := [N + 5, N + 3, N + 4, N, N + 1, N + 2]) (fun c o nc e => by
        simp only [List.mem_cons, List.not_mem_nil, or_false, not_or] at nc
        exact (sb.2 c nc.1).trans (hk c o nc.1 nc.2.2.1 nc.2.2.2.1 nc.2.2.2.2.1 nc.2.2.2.2.2 e)) hf (Nat.le_refl _) ⟨by show 3 ≤ sizeLine; decide, [x1, x2, x3], .cons r1 (.cons r2 (.cons r3 .nil)), ⟨_, gT, rfl, _, rfl⟩⟩
    refine ⟨.ref s.heap.objs.size, _, I1, rfl, ⟨_, x, y, z, rfl, I.hok.fresh (Nat.le_refl _), rfl, fun l hl => ?_, fun l hl => ?_, fun l hl => ?_⟩, ⟨gz, ?_, ⟨x1, x2, x3, ?_⟩, ?_, ?_, ?_⟩, fun c hm => ?_⟩
    · rw [I.seqK_inj hl qx]; exact hx
    · rw [I.seqK_inj hl qy]; exact hy
    · rw [I.seqK_inj hl qz]; exact hz'
    · exact (sb.2 _ S.TIz).trans (hk _ _ S.TIz S.TITO S.TIi1 S.TIi2 S.TIi3 hI)
    · exact (sb.2 _ S.TOz).trans O'
    · exact s1.1.atK fun o q => (sb.2 _ (Nat.ne_of_lt (Nat.lt_add_of_pos_right (by decide)))).trans q
    · exact s2.1.atK fun o q => (sb.2 _ (Nat.ne_of_lt (Nat.add_lt_add_left (show 1 < 5 by decide) N))).trans q
    · exact s3.1.atK fun o q => (sb.2 _ (Nat.ne_of_lt (Nat.add_lt_add_left (show 2 < 5 by decide) N))).trans q
    · rw [upd_ne (Nat.ne_of_lt (lcl hm))]
      exact (hf c hm).1
  done := by
    intro X hP hw hK hc i pins s σ H E I hf st hg
    subst hP hw hK
    obtain ⟨hz, hI, ⟨x0, y0, z0, hO⟩, h1, h2, h3⟩ := st
    obtain ⟨xs, ys, zs, qx, qy, qz, l1, l2, l3, hend⟩ := hg
    obtain ⟨us, ru, pu, _⟩ := I.seqK qx
    obtain ⟨ws, rw', pw, _⟩ := I.seqK qy
    obtain ⟨ts, rt, pt, _⟩ := I.seqK qz
    have hh : X.A.in1.handled = none := I.ok.hd hc
    have S := zip_sep3 (N := N) (fp1 := [a]) (fp2 := [b]) (fp3 := [c]) (fun d hd => by rw [List.mem_singleton] at hd; subst hd; exact la) (fun d hd => by rw [List.mem_singleton] at hd; subst hd; exact lb) (fun d hd => by rw [List.mem_singleton] at hd; subst hd; exact lc)
    refine wpAny_pyNext_zipD3_end S (drawsK k1 hh N a (Nat.ne_of_lt la) us.toArray) (drawsK k2 hh (N + 1) b (Nat.ne_of_lt (Nat.lt_succ_of_lt lb)) ws.toArray) (drawsK k3 hh (N + 2) c (Nat.ne_of_lt (Nat.lt_succ_of_lt (Nat.lt_succ_of_lt lc))) ts.toArray) hz hI hO ⟨h1, pu⟩ ⟨h2, pw⟩ ⟨h3, pt⟩
      (by rw [vals_size ru]; exact l1) (by rw [vals_size rw']; exact l2) (by rw [vals_size rt]; exact l3) (by rw [vals_size ru, vals_size rw', vals_size rt]; exact hend) fun h' tk hk => ⟨rfl, I.turnedL (ch := [N + 5, N + 3, N + 4, N, N + 1, N + 2]) (fun c o nc e => by
        simp only [List.mem_cons, List.not_mem_nil, or_false, not_or] at nc
        exact hk c o nc.1 nc.2.2.1 nc.2.2.2.1 nc.2.2.2.2.1 nc.2.2.2.2.2 e) hf⟩
  self A i s Q E st h := wpAny_pyIter_zip st.zip h
def iZip3 (K : PySem.W.Frag) (ta : TA) : TI := fun σ H R => ta σ H fun vs H1 => ∃ k1 k2 k3 a b c xs ys zs, vs = [.ref a, .ref b, .ref c] ∧ SqK K k1 H1 a xs ∧ SqK K k2 H1 b ys ∧ SqK K k3 H1 c zs ∧ R (Itz3 K k1 k2 k3 a b c) H1
theorem pi_zip3 {X : Cx} {e1 e2 e3 : Expr} {ta : TA} {p pos tpos : Pos} {elts : List Expr} {kk : Nat} (hg : Gl X "zip") (hm : X.mg "zip" = none) (ha : PA X [e1, e2, e3] ta)
    (hs : starEach [e1, e2, e3] X.env = (false, eval e1 X.env) :: starEach [e2, e3] X.env := by rfl) (hpl : (backTo pos (starEach [e2, e3] X.env)).any (·.1) = false := by rfl) :
    PI X (.Tuple elts kk tpos) (.Call (.Name "zip" p) [e1, e2, e3] [] pos) (iZip3 X.K ta) where
  run pins s σ H R I h := by
    refine Call_ (ld_blt I hg hm PyProof.Rows.boot_zip (PyProof.Rows.callWith_type1 (thn (ha.run pos pins s σ H _ I h) fun us s1 ⟨vs, H1, I1, r1, k1, k2, k3, a, b, c, xs, ys, zs, ev, qx, qy, qz, q⟩ => ?_) hs hpl))
    subst ev
    cases r1 with
    | cons ra rr =>
    cases rr with
    | cons rb rr =>
    cases rr with
    | cons rc rr =>
    cases rr
    cases ra
    cases rb
    cases rc
    obtain ⟨us, _, pu, la⟩ := I1.seqK qx
    obtain ⟨ws, _, pw, lb⟩ := I1.seqK qy
    obtain ⟨ts, _, pt, lc⟩ := I1.seqK qz
    refine zip_begins3 (beginsK k1 a us.toArray) (beginsK k2 b ws.toArray) (beginsK k3 c ts.toArray) pu pw pt fun h' hz hI hO h1 h2 h3 hsz hk => wpAny_pyIter_zip hz ?_
    refine ⟨s1.heap.objs.size + 5, [s1.heap.objs.size + 5, s1.heap.objs.size + 3, s1.heap.objs.size + 4, s1.heap.objs.size, s1.heap.objs.size + 1, s1.heap.objs.size + 2], _, _, H1, rfl, I1.kept (t' := s1.toks) hk, turn_zip3 la lb lc, ⟨hz, hI, ⟨_, _, _, hO⟩, HpIter.begun h1, HpIter.begun h2, HpIter.begun h3⟩, fun d hd => ?_, q⟩
    have hle : s1.heap.objs.size ≤ d := by
      simp only [List.mem_cons, List.not_mem_nil, or_false] at hd
      rcases hd with rfl | rfl | rfl | rfl | rfl | rfl <;> omega
    exact I1.fpOk hle (I1.hok.fresh hle)
/-- a loop over zip of three of one length -/
theorem for_zip3 {K : PySem.W.Frag} {k1 k2 k3 : Bool} {a b c : Addr} {xs ys zs : List V} {g : TG} {tb : TS} {D : Ends} {σ : St} {H : Hp} (hl : ys.length = xs.length) (hl2 : zs.length = xs.length) (Pv : Nat → St → Hp → Prop) (h0 : Pv 0 σ H) (hq : ∀ i σ H, Pv i σ H → SqK K k1 H a xs ∧ SqK K k2 H b ys ∧ SqK K k3 H c zs)
    (hs : ∀ i x y z T σ H, xs[i]? = some x → ys[i]? = some y → zs[i]? = some z → H T = none → Pv i σ H → g (.ref T) σ (upd H T (.tup [x, y, z])) fun σ2 H2 => tb { D with nx := Pv (i + 1), ct := Pv (i + 1), bk := D.nx } σ2 H2)
    (hd : ∀ σ H, Pv xs.length σ H → D.nx σ H) :
    ∃ W : Nat → Nat → St → Hp → Prop, (∃ m, W 0 m σ H) ∧ ∀ i m σ H, W i m σ H →
      ((Itz3 K k1 k2 k3 a b c).stop i H ∧ D.nx σ H) ∨ ((Itz3 K k1 k2 k3 a b c).go i H ∧ ∃ N : St → Hp → Prop, (∀ σ' H', N σ' H' → ∃ m', m' < m ∧ W (i + 1) m' σ' H') ∧ ∀ x H', (Itz3 K k1 k2 k3 a b c).yld i H x H' → g x σ H' fun σ2 H2 => tb { D with nx := N, ct := N, bk := D.nx } σ2 H2) := by
  refine ⟨fun i m σ H => m = xs.length - i ∧ i ≤ xs.length ∧ Pv i σ H, ⟨xs.length, by simp, Nat.zero_le _, h0⟩, ?_⟩
  rintro i m σ H ⟨rfl, hi, p⟩
  obtain ⟨qa, qb, qc⟩ := hq i σ H p
  by_cases hlt : i < xs.length
  · refine .inr ⟨⟨xs, ys, zs, _, _, _, qa, qb, qc, List.getElem?_eq_getElem hlt, List.getElem?_eq_getElem (by omega), List.getElem?_eq_getElem (by omega)⟩, Pv (i + 1), fun σ' H' p' => ⟨xs.length - (i + 1), by omega, rfl, hlt, p'⟩, fun v H' y => ?_⟩
    obtain ⟨T, x, y, z, rfl, hT, rfl, f1, f2, f3⟩ := y
    exact hs i x y z T σ H (f1 xs qa) (f2 ys qb) (f3 zs qc) hT p
  · have e : i = xs.length := by omega
    subst e
    exact .inl ⟨⟨xs, ys, zs, qa, qb, qc, Nat.le_refl _, by omega, by omega, .inl rfl⟩, hd σ H p⟩
end L2


set_option Elab.async false
set_option linter.all false
set_option maxRecDepth 100000
set_option maxHeartbeats 2000000
set_option autoImplicit false
namespace PySem
open Sem (wp)
open PySem.W
section
variable {prog : Program} {w : World} {A : Around} {E : Value → Shared → Prop} {s : Shared}
/-- a, *b = a list: a new list of what stands behind the first -/
theorem star_unp {l : Addr} {items : Array Value} {Q : List Value → Shared → Prop} (hl : s.heap.IsList l items) (hh : A.handled = none) (h1 : 1 ≤ items.size) (hz : items.size ≤ 16384)
    (h : ∀ h' tk D, (∀ b o, s.heap.get? b = some o → h'.get? b = some o) → s.heap.get? D = none → h'.get? D = some { cls := .type "list", data := .seq (items.toList.drop 1).toArray } → Q (items.toList.take 1 ++ [.ref D]) { s with heap := h', toks := tk }) :
    wpAny (model prog w) A (unpackItems (.ref l) 2 (some 1)) Q E s := by
  have hlt : l ≠ s.heap.objs.size := by obtain ⟨o, ho, _⟩ := hl; exact Nat.ne_of_lt (Heap.lt_size ho)
  have hll : l < s.heap.objs.size := by obtain ⟨o, ho, _⟩ := hl; exact Heap.lt_size ho
  unfold unpackItems
  refine wpAny_bind ?_
  unfold notIterableAtAll
  refine wpAny_bind (wpAny_specialOf hl.typeIs slot_list_iter.lookup ?_)
  refine wpAny_pure ?_
  simp only [Bool.false_eq_true, if_false]
  refine wpAny_bind (wpAny_holding (wpAny_pyIter_list hl ?_))
  refine wpAny_bind (wpAny_holding (kun_draw hlt 1 0 _ _ ⟨_, Heap.get?_push_size _ rfl, rfl, rfl⟩ (hl.push _) (by omega) fun h₁ hit₁ hs₁ => ?_))
  have hl₁ : h₁.IsList l items := (hl.push _).extBut hs₁.extBut hlt
  rw [Nat.zero_add] at hit₁
  have hit₁' := hit₁
  obtain ⟨oi, hoi, _⟩ := hit₁'
  have hl₁' := hl₁
  obtain ⟨ol, hol, _⟩ := hl₁'
  rw [List.drop_zero]
  have hfl : (items.toList.take 1).length = 1 := by rw [List.length_take, Array.length_toList]; omega
  rw [if_neg (show ¬ ((items.toList.take 1).length < 1) by rw [hfl]; omega)]
  refine wpAny_bind (wpAny_holding (kun_collect (s := { s with heap := h₁ }) (T := "list_iterator") (.inr (.inr (.inl rfl))) (Walks.list (A := A.in1) hh s.heap.objs.size l hlt items) (fun j u st => st.1.typeIs) (k := 1) (by omega) ⟨hit₁, hl₁⟩ (Heap.lt_size hoi) (Heap.lt_size hol) (fun h₂ tk hk => ?_) (by rw [sizeLine_eq]; omega)))
  have hrl : (items.toList.drop 1).length = items.size - 1 := by rw [List.length_drop, Array.length_toList]
  show wpAny _ _ (if (items.toList.drop 1).length < 2 - 1 - 1 then _ else _) _ _ _
  rw [if_neg (by omega)]
  show wpAny _ _ (newList ((items.toList.drop 1).take ((items.toList.drop 1).length - (2 - 1 - 1))) >>= fun d => pure (items.toList.take 1 ++ [d] ++ (items.toList.drop 1).drop ((items.toList.drop 1).length - (2 - 1 - 1)))) _ _ _
  have e1 : (items.toList.drop 1).take ((items.toList.drop 1).length - (2 - 1 - 1)) = items.toList.drop 1 := List.take_of_length_le (by omega)
  have e2 : (items.toList.drop 1).drop ((items.toList.drop 1).length - (2 - 1 - 1)) = [] := List.drop_of_length_le (by omega)
  rw [e1, e2]
  have he : ∀ b o, s.heap.get? b = some o → h₂.get? b = some o := fun b o e => hk b o (Nat.ne_of_lt (Heap.lt_size e)) (hs₁.extBut b o (Nat.ne_of_lt (Heap.lt_size e)) (Heap.get?_push_of_some _ e))
  refine wpAny_bind (wpAny_newList (s := { s with heap := h₂, toks := tk }) (wpAny_pure ?_) (by rw [hrl, sizeLine_eq]; omega))
  rw [List.append_nil]
  refine h _ _ _ (fun b o e => Heap.get?_push_of_some _ (he b o e)) ?_ (Heap.get?_push_size _ rfl)
  cases q : s.heap.get? h₂.objs.size with
  | none => rfl
  | some o => exact absurd (Heap.lt_size (he _ _ q)) (Nat.lt_irrefl _)
end
end PySem
namespace L2
open PySem PySem.Spec PyProof.Rows
def gStar (K : PySem.W.Frag) (t : TGs) : TG := fun v σ H Q => ∃ a x xs, v = .ref a ∧ SqL K H a (x :: xs) ∧ xs.length ≤ 10000 ∧ ∀ D, H D = none → t [x, .ref D] σ (upd H D (.lst xs)) Q
section
variable {X : Cx} {pos : Pos}
theorem pg_star {e1 e2 : Expr} {p : Pos} {k : Nat} {t : TGs} (hc : X.calm = true) (h : PGs X [e1, e2] t) (h1 : assignEach [e1, .Starred e2 p] X.env = [(false, assign e1 X.env), (true, assign e2 X.env)] := by rfl)
    (h2 : assignEach [e1, e2] X.env = [(false, assign e1 X.env), (false, assign e2 X.env)] := by rfl) : PG X (.Tuple [e1, .Starred e2 p] k pos) (gStar X.K t) := by
  refine ⟨fun pins s σ H v u Q I r hw => ?_⟩
  obtain ⟨a, x, xs, ev, hq, hl, hw⟩ := hw
  subst ev
  cases r
  obtain ⟨its, rv, pl, hz⟩ := I.list hq
  cases rv with
  | @cons _ v0 _ vs r0 rs =>
  have hlen := rs.length
  rw [PyProof.Rows.assign_Tuple]
  refine wpAny_bind (wpAny_standAt ?_)
  unfold unpack
  rw [h1]
  show wpAny _ _ (holding [_] (unpackItems _ 2 (some 1)) >>= _) _ _ _
  refine wpAny_bind (wpAny_holding (star_unp pl.isList (I.ok.hd hc) (by simp) (by simp; omega) fun h' tk D hk hD hL => ?_))
  have hn := I.hok.gone hD
  have I1 : Inv X pins σ (upd H D (.lst xs)) { s with heap := h', toks := tk } := I.laidN hk hD hn ⟨by show xs.length ≤ sizeLine; exact Nat.le_trans hl (by rw [sizeLine_eq]; decide), vs, 0, rs, by simpa using hL⟩
  have q := h.run pins _ σ _ [x, .ref D] [v0, .ref D] Q I1 (.cons r0 (.cons rfl .nil)) (hw D hn)
  rw [h2] at q
  exact q
end
end L2


set_option Elab.async false
set_option linter.all false
set_option maxRecDepth 100000
set_option maxHeartbeats 2000000
set_option autoImplicit false
namespace L2
open PySem PySem.Spec PyProof.Rows
/-- enumerate(the list at a, start=1): a new pair at each turn -/
def IteS (K : PySem.W.Frag) (a : Addr) : It where
  go i H := ∃ (xs : List V) (x : V), SqL K H a xs ∧ xs[i]? = some x
  yld i H v H' := ∃ T x, v = .ref T ∧ H T = none ∧ H' = upd H T (.tup [.int (1 + (i : Nat)), x]) ∧ ∀ xs, SqL K H a xs → xs[i]? = some x
  stop i H := ∃ xs : List V, SqL K H a xs ∧ xs.length = i
structure EsAt (e it a : Addr) (i : Nat) (h : Heap) : Prop where
  en : ∃ old, IsEnum h e it (1 + (i : Int)) old
  li : h.IsListIter it a i
theorem EsAt.cell {e it a : Addr} {i : Nat} {h : Heap} (st : EsAt e it a i h) {b : Addr} (hb : b ∈ [e, it]) : ∃ o, h.get? b = some o ∧ ∀ v, o.data ≠ .cell v := by
  obtain ⟨⟨old, he⟩, ⟨o, ho, hc, hd⟩⟩ := st
  simp only [List.mem_cons, List.not_mem_nil, or_false] at hb
  rcases hb with rfl | rfl
  · exact ⟨_, he, fun v => nofun⟩
  · exact ⟨o, ho, fun v q => by rw [hd] at q; cases q⟩
theorem turn_enumS {P : Program} {w : World} {K : PySem.W.Frag} {elts : List Expr} {kk : Nat} {tpos : Pos} {a e it : Addr} (hne : e ≠ it) (hai : a ≠ it) (hea : e ≠ a) :
    Turn P w K (.Tuple elts kk tpos) (IteS K a) [e, it] e (EsAt e it a) where
  mem := List.mem_cons_self
  obj i h st b hb := st.cell hb
  keep i h h' st k := by
    obtain ⟨⟨old, he⟩, hi⟩ := st
    exact ⟨⟨old, k e (by simp) _ he⟩, hi.at fun o q => k it (by simp) o q⟩
  item := by
    intro X hP hw hK hc i pins s σ H E I hf st hg
    subst hP hw hK
    have lc : ∀ {b : Addr}, b ∈ [e, it] → b < s.heap.objs.size := fun hb => let ⟨_, q, _⟩ := st.cell hb; Heap.lt_size q
    obtain ⟨⟨old, he⟩, hit⟩ := st
    obtain ⟨xs, x, hq, hx⟩ := hg
    obtain ⟨its, rv, p, hz⟩ := I.list hq
    obtain ⟨u, hu, ru⟩ := rv.get hx
    have hh : X.A.in1.handled = none := I.ok.hd hc
    have hlt : i < its.toArray.size := by
      have := (List.getElem?_eq_some_iff.mp hx).1
      rw [List.size_toArray, ← rv.length]; exact this
    refine wpAny_pyNext_enum_itemC (Draws.list hh it a hai its.toArray) he ⟨hit, p.isList⟩ hlt hne (by simp [hne, hea]) fun y h' tk hP ho hs hT hsz hk => ?_
    obtain rfl : u = y := Option.some.inj (((by simpa using hu : its.toArray[i]? = some u)).symm.trans hP)
    refine ⟨_, rfl, wpAny_letOwnedTupleGo_enum (s := { s with heap := h', toks := tk + 1 }) ho fun g ge sb => ?_⟩
    have hel := lc (b := e) (by simp)
    have gT : g.get? s.heap.objs.size = some { cls := .type "tuple", data := .seq #[.int (1 + (i : Int)) tk, u] } := (sb.2 _ (Nat.ne_of_gt hel)).trans hT
    have I1 : Inv X pins σ (upd H s.heap.objs.size (.tup [.int (1 + (i : Nat)), x])) { s with heap := g, toks := tk + 1 } :=
      I.turnedNew (ch := [e, it]) (fun b ob hb q => (sb.2 b (fun z => hb (by simp [z]))).trans (hk b ob (fun z => hb (by simp [z])) (fun z => hb (by simp [z])) q)) hf (Nat.le_refl _)
        ⟨by show 2 ≤ sizeLine; decide, [.int (1 + (i : Int)) tk, u], .cons ⟨_, rfl⟩ (.cons ru .nil), ⟨_, gT, rfl, _, rfl⟩⟩
    refine ⟨.ref s.heap.objs.size, _, I1, rfl, ⟨_, x, rfl, I.hok.fresh (Nat.le_refl _), rfl, fun ys hy => by rw [I.list_inj hy hq]; exact hx⟩, ⟨⟨u, ?_⟩, hs.1.at fun o q => (sb.2 it (Ne.symm hne)).trans q⟩, fun b hb => ?_⟩
    · have e1 : 1 + ((i + 1 : Nat) : Int) = 1 + (i : Int) + 1 := by omega
      rw [e1]; exact ge
    · rw [upd_ne (Nat.ne_of_lt (lc hb))]
      exact (hf b hb).1
  done := by
    intro X hP hw hK hc i pins s σ H E I hf st hg
    subst hP hw hK
    obtain ⟨⟨old, he⟩, hit⟩ := st
    obtain ⟨xs, hq, hx⟩ := hg
    obtain ⟨its, rv, p, hz⟩ := I.list hq
    have hh : X.A.in1.handled = none := I.ok.hd hc
    have hn : its.toArray.size = i := by rw [List.size_toArray, ← rv.length]; exact hx
    refine wpAny_pyNext_enum_endD (Draws.list hh it a hai its.toArray) he (by rw [hn]; exact ⟨hit, p.isList⟩) fun h' hk => ⟨rfl, ?_⟩
    exact I.turnedL (t' := s.toks) (ch := [e, it]) (fun b o hb q => hk b o (fun z => hb (by simp [z])) q) hf
  self A i s Q E st h := let ⟨_, he⟩ := st.en; wpAny_pyIter_enum he h
theorem callWith_typeK {M : Model} {A : Around} {E : Value → Shared → Prop} {s : Shared} {pos : Pos} {T : String} {args : List (Bool × Sem Value)} {kws : List (Option Str × Sem Value)} {Q : Value → Shared → Prop}
    (hplain : args.any (·.1) = false) (hkw : kws.any (·.1.isNone) = false) (h : wpAny M A (evalArgs (.type T) true args kws) (fun a s₁ => wpAny M A (call (.type T) ([] ++ a.pos) a.kw) Q E s₁) E s) :
    wpAny M A (callWith pos (.type T) [] args kws) Q E s := by
  unfold callWith
  refine wpAny_bind (wpAny_holding (wpAny_mono h (fun a s₁ q => wpAny_bind (wpAny_standAt ?_)) fun _ _ x => x))
  simp only [hplain, hkw, Bool.or_false]
  exact wpAny_bind (wpAny_pure (wpAny_bind (wpAny_mono q (fun r s₂ hr => wpAny_bind (wpAny_holding (wpAny_point (wpAny_pure hr)))) fun _ _ x => x)))
def iEnumS (K : PySem.W.Frag) (ta : TA) (tk : TA) : TI := fun σ H R => ta σ H fun vs H1 => tk σ H1 fun ks H2 => ∃ a xs, vs = [.ref a] ∧ ks = [.int 1] ∧ SqL K H2 a xs ∧ R (IteS K a) H2
theorem pi_enumS {X : Cx} {e : Expr} {ta tk : TA} {p pos tpos kp : Pos} {c : Expr} {elts : List Expr} {kk : Nat} (hg : Gl X "enumerate") (hm : X.mg "enumerate" = none) (ha : PA X [e] ta) (hk : PK X [⟨some ("start" : Str), c, kp⟩] tk)
    (hs : starEach [e] X.env = (false, eval e X.env) :: starEach [] X.env := by rfl) (hq : keywordEach [⟨some ("start" : Str), c, kp⟩] X.env = [(some ("start" : Str), eval c X.env)] := by rfl) :
    PI X (.Tuple elts kk tpos) (.Call (.Name "enumerate" p) [e] [⟨some ("start" : Str), c, kp⟩] pos) (iEnumS X.K ta tk) := by
  refine ⟨fun pins s σ H R I h => ?_⟩
  refine wpAny_Call_Name_kw (ld_blt I hg hm boot_enumerate ?_)
  have h1 := ha.run pos pins s σ H _ I h
  refine callWith_typeK (by rw [hs]; rfl) (by rw [hq]; rfl) ?_
  rw [hs] at h1 ⊢
  refine PyProof.Rows.evalArgs_kwB (by rw [hq]; rfl) ?_
  refine thn h1 fun us s1 ⟨vs, H1, I1, r1, q1⟩ => ?_
  refine thn (hk.run pos pins s1 σ H1 _ I1 q1) fun ws s2 ⟨ks, H2, I2, r2, a, xs, ev, ek, hl, q⟩ => ?_
  subst ev ek
  cases r1 with
  | cons ra rr =>
  cases rr
  cases ra
  cases r2 with
  | cons rk rr =>
  cases rr
  obtain ⟨t, rfl⟩ := rk
  obtain ⟨its, rv, p', hz⟩ := I2.list hl
  rw [hq]
  show wpAny _ _ (call (.type "enumerate") [.ref a] [(Str.ofString "start", .int 1 t)]) _ _ _
  have lt : a < s2.heap.objs.size := p'.lt
  refine enum_begins_start (begins_list a its.toArray) p'.isList (by decide) (by decide) fun h' he hit hsz hkeep => wpAny_pyIter_enum he ?_
  refine ⟨s2.heap.objs.size + 1, [s2.heap.objs.size + 1, s2.heap.objs.size], _, _, H2, rfl, I2.kept (t' := s2.toks) hkeep, turn_enumS (Nat.succ_ne_self _) (Nat.ne_of_lt lt) (Nat.ne_of_gt (Nat.lt_succ_of_lt lt)), ⟨⟨_, he⟩, ⟨_, hit, rfl, rfl⟩⟩, fun b hb => ?_, q⟩
  have hle : s2.heap.objs.size ≤ b := by
    simp only [List.mem_cons, List.not_mem_nil, or_false] at hb
    rcases hb with rfl | rfl
    · exact Nat.le_succ _
    · exact Nat.le_refl _
  exact I2.fpOk hle (I2.hok.fresh hle)
end L2


set_option Elab.async false
set_option linter.all false
set_option maxRecDepth 100000
set_option maxHeartbeats 2000000
set_option autoImplicit false
namespace L2
open PySem PySem.Spec PyProof.Rows
/-- every second from the k-th on -/
def evn {α : Type} (L : List α) (k : Nat) : List α := (List.range ((L.length + 1 - k) / 2)).filterMap fun i => L[k + 2 * i]?
theorem fm_cg {α β : Type} {f g : α → Option β} : ∀ l : List α, (∀ x, f x = g x) → l.filterMap f = l.filterMap g
  | [], _ => rfl
  | a :: l, h => by simp only [List.filterMap_cons, h a, fm_cg l h]
theorem pick_evn (items : Array Value) (k : Nat) (hk : k ≤ items.size) : slicePick items (some (k : Int)) none (some 2) = (evn items.toList k).toArray := by
  have e : sliceBounds (some (k : Int)) none (some 2) items.size = ((k : Int), (items.size : Int), 2) := by
    simp only [sliceBounds, Option.getD_some]
    have h1 : ¬ ((k : Int) < 0) := by omega
    simp only [h1, if_false, show (2 : Int) > 0 by decide, if_true]
    congr 1
    omega
  have c : (if (2 : Int) > 0 then (if (k : Int) < (items.size : Int) then ((items.size : Int) - (k : Int) + 2 - 1) / 2 else 0) else (if (k : Int) > (items.size : Int) then ((k : Int) - (items.size : Int) - 2 - 1) / (-2) else 0)).toNat = (items.toList.length + 1 - k) / 2 := by
    rw [if_pos (by decide), Array.length_toList]
    by_cases h : (k : Int) < (items.size : Int)
    · rw [if_pos h]; omega
    · rw [if_neg h]; omega
  unfold slicePick
  rw [e]
  unfold sliceRange
  dsimp only
  rw [c, List.filterMap_map]
  unfold evn
  congr 1
  refine fm_cg _ fun i => ?_
  show items[((k : Int) + 2 * (i : Int)).toNat]? = items.toList[k + 2 * i]?
  rw [show ((k : Int) + 2 * (i : Int)).toNat = k + 2 * i by omega, Array.getElem?_toList]
theorem vals_pick {xs : List V} {us : List Value} (r : Vals xs us) (f : Nat → Nat) : ∀ l : List Nat, Vals (l.filterMap fun i => xs[f i]?) (l.filterMap fun i => us[f i]?)
  | [] => .nil
  | i :: l => by
    have ih := vals_pick r f l
    cases h : xs[f i]? with
    | none =>
      have h2 : us[f i]? = none := by
        rw [List.getElem?_eq_none_iff] at h ⊢
        rw [← r.length]; exact h
      simp only [List.filterMap_cons, h, h2]
      exact ih
    | some x =>
      obtain ⟨u, h2, ru⟩ := r.get h
      simp only [List.filterMap_cons, h, h2]
      exact .cons ru ih
theorem vals_evn {xs : List V} {us : List Value} (r : Vals xs us) (k : Nat) : Vals (evn xs k) (evn us k) := by
  unfold evn
  rw [r.length]
  exact vals_pick r _ _
theorem evn_le {α : Type} (L : List α) (k : Nat) : (evn L k).length ≤ L.length := by
  refine Nat.le_trans (List.length_filterMap_le _ _) ?_
  rw [List.length_range]
  omega
def tEvn (K : PySem.W.Frag) (te : TE) (k : Int) : TE := fun σ H Q => te σ H fun x H1 => ∃ (a : Addr) (xs : List V) (j : Nat), x = .ref a ∧ k = (j : Int) ∧ SqL K H1 a xs ∧ j ≤ xs.length ∧ ∀ p, H1 p = none → Q (.ref p) (upd H1 p (.lst (evn xs j)))
section
variable {X : Cx}
theorem pe_evn {e : Expr} {te : TE} {k : Int} {k1 k2 : Nat} {p1 p2 p3 pos : Pos} (he : PE X e te) : PE X (.Subscript e (.Slice (some (.Constant (.int k) k1 p1)) none (some (.Constant (.int 2) k2 p2)) p3) pos) (tEvn X.K te k) := by
  refine ⟨fun pins s σ H Q I h => ?_⟩
  refine Subscript_ (thn (he.run pins s σ H _ I h) fun v s1 ⟨x, H1, I1, r1, q1⟩ => ?_)
  obtain ⟨a, xs, j, ex, ek, hx, hj, q⟩ := q1
  subst ex ek
  cases r1
  have hlo : PO X (some (.Constant (.int (j : Int)) k1 p1)) (tPart (tC (.int (j : Int)))) := po_some pe_int
  have hst : PO X (some (.Constant (.int 2) k2 p2)) (tPart (tC (.int 2))) := po_some pe_int
  refine wpAny_Slice (thn (hlo.run pins s1 σ H1 (fun o H2 => o = some (j : Int) ∧ H2 = H1) I1 ⟨_, rfl, rfl, rfl⟩) fun vl s2 ⟨l, H2, I2, pl, el, e2⟩ => ?_)
  subst el e2
  refine thn (po_none.run pins s2 σ H2 (fun o H3 => o = none ∧ H3 = H2) I2 ⟨rfl, rfl⟩) fun vu s3 ⟨u, H3, I3, pu, eu, e3⟩ => ?_
  subst eu e3
  refine thn (hst.run pins s3 σ H3 (fun o H4 => o = some 2 ∧ H4 = H3) I3 ⟨_, rfl, rfl, rfl⟩) fun vs s4 ⟨o, H4, I4, ps, eo, e4⟩ => ?_
  subst eo e4
  have I5 : Inv X pins σ H4 { s4 with heap := s4.heap.push { cls := .type "slice", data := .fields #[vl, vu, vs] } } := I4.kept (t' := s4.toks) fun b ob q => Heap.get?_push_of_some _ q
  obtain ⟨its, r, ht, hz⟩ := I5.list hx
  have hlen := r.length
  refine tail_any (ops := [.ref a, .ref s4.heap.objs.size]) ht.isList.typeIs (slot_list_getitem.lookup) ?_ (by with_unfolding_all rfl)
  refine wpAny_getItem_list_slice ht.isList (Heap.IsSliceOf.new _ vl vu vs) pl pu ps (by decide) ?_ (by rw [List.size_toArray]; omega)
  refine ⟨.ref _, _, I5.laid (t' := s4.toks) (o := .lst (evn xs j)) (fun b ob q => Heap.get?_push_of_some _ q) (Nat.le_refl _) ?_, rfl, q _ (I5.hok.fresh (Nat.le_refl _))⟩
  have e6 := pick_evn its.toArray j (by rw [List.size_toArray, ← hlen]; exact hj)
  refine ⟨Nat.le_trans (evn_le xs j) (Nat.le_of_lt_succ (Nat.lt_succ_of_le hz)), _, 0, vals_evn r j, ?_⟩
  rw [e6]
  exact Heap.get?_push_size _ rfl
end
end L2


set_option Elab.async false
set_option linter.all false
set_option pp.maxSteps 900
set_option maxRecDepth 100000
set_option maxHeartbeats 4000000
set_option autoImplicit false
namespace Hc
open PySem L2
theorem same_putX {H H4 : Hp} {D : Addr} {o : HO} (s : Same H H4) (hD : H D = none) : Same H (upd H4 D o) := fun b u z => by
  rw [upd_ne (ne_of_none z hD)]
  exact s _ _ z
theorem len_app (a b : Str) : (a ++ b).length = a.length + b.length := by rw [TL.len_tl, TL.tl_append, List.length_append, ← TL.len_tl, ← TL.len_tl]
theorem ja {a b : Str} {k m : Nat} (h1 : a.length ≤ k) (h2 : b.length ≤ m) : (a ++ b).length ≤ k + m := by rw [len_app]; omega
theorem jz {a : Str} {k : Nat} (h : a.length ≤ k) (hk : k ≤ 100000) : a.length ≤ sizeLine := Nat.le_trans h (line_le hk)
def NumOk (i : Int) : Prop := 0 ≤ i ∧ i < 1000000000000
theorem NumOk.len {i : Int} (h : NumOk i) : (sn i).length ≤ 12 := by
  obtain ⟨n, rfl⟩ := Int.eq_ofNat_of_zero_le h.1
  rw [TL.len_tl, tl_sn]
  exact TL.numL_len (by decide) (by have := h.2; show n < 10 ^ 12; omega)
theorem NumOk.lg {i : Int} (h : NumOk i) : i.natAbs.log2 < 1920 := by
  obtain ⟨n, rfl⟩ := Int.eq_ofNat_of_zero_le h.1
  rw [Int.natAbs_natCast]
  by_cases z : n = 0
  · subst z; decide
  · rw [Nat.log2_lt z]
    have h2 := h.2
    exact Nat.lt_of_lt_of_le (show n < 2 ^ 40 by have e : (2 : Nat) ^ 40 = 1099511627776 := by decide
                                                 omega) (Nat.pow_le_pow_right (by decide) (by decide))
theorem sum_le {L : List Nat} {m : Nat} (h : ∀ x ∈ L, x ≤ m) : L.sum ≤ L.length * m := by
  induction L with
  | nil => simp
  | cons a r ih =>
    have h1 := h a (List.mem_cons_self ..)
    have h2 := ih fun x hx => h x (List.mem_cons_of_mem _ hx)
    rw [List.sum_cons, List.length_cons, Nat.add_mul]
    omega
section
variable {P : Program} {w : World} {K : PySem.W.Frag} {mg : Str → Option Value} {base : Heap}
def spClosed : Sp := fun vs H Q _ => ∃ (p : Addr) (ls : List Str), vs = [.ref p] ∧ H p = some (.lst (ls.map V.str)) ∧ (∀ l ∈ ls, l.length ≤ 1000) ∧ ls.length ≤ 1000 ∧ ∀ H', Same H H' → Q (.str (closedS ls)) H'
/-- the text of a web -/
def roadS (rds : List D) (rm tm : List Int) (i : Nat) : Str := fRoad (bg (rds.getD i .non)) (en (rds.getD i .non)) (rm.getD i 0) (tm.getD i 0)
def webLs (n : Int) (rds : List D) (rm tm : List Int) : List Str := fWeb n :: (List.range rds.length).map (roadS rds rm tm)
def webS (n : Int) (rds : List D) (rm tm : List Int) : Str := closedS (webLs n rds rm tm)
theorem road_ok {C : Addr} {H : Hp} {h p : Addr} {n : Int} {rds : List D} {rm tm : List Int} (W : WebR C H h p n rds rm tm) (hn : NumOk n) {i : Nat} (hi : i < rds.length) :
    ∃ b e r t, roadS rds rm tm i = fRoad b e r t ∧ rds.getD i .non = .tup [.int b, .int e] ∧ rm[i]? = some r ∧ tm[i]? = some t ∧ NumOk b ∧ NumOk e ∧ NumOk r ∧ NumOk t := by
  have hbe := List.all_eq_true.mp W.all rds[i] (List.getElem_mem hi)
  obtain ⟨b, e, ed, q1, q2, q3, q4, _⟩ := be_full hbe
  have eg : rds.getD i .non = .tup [.int b, .int e] := by
    rw [List.getD_eq_getElem?_getD, List.getElem?_eq_getElem hi]
    exact ed
  have hr : i < rm.length := by rw [W.lr]; exact hi
  have ht : i < tm.length := by rw [W.lt]; exact hi
  have br := W.br rm[i] (List.getElem_mem hr)
  have bt := W.bt tm[i] (List.getElem_mem ht)
  have h2 := hn.2
  refine ⟨b, e, rm[i], tm[i], ?_, eg, List.getElem?_eq_getElem hr, List.getElem?_eq_getElem ht, ⟨q1, by omega⟩, ⟨q3, by omega⟩, ⟨by omega, by omega⟩, ⟨by omega, by omega⟩⟩
  unfold roadS
  rw [eg, List.getD_eq_getElem?_getD, List.getD_eq_getElem?_getD, List.getElem?_eq_getElem hr, List.getElem?_eq_getElem ht]
  rfl
def spWebText (C : Addr) : Sp := fun vs H Q _ => ∃ (h p : Addr) (n : Int) (rds : List D) (rm tm : List Int), vs = [.ref p] ∧ WebX C H h p n rds rm tm ∧ NumOk n ∧ ∀ H', Same H H' → Q (.str (webS n rds rm tm)) H'
end
end Hc


set_option Elab.async false
set_option linter.all false
set_option pp.maxSteps 900
set_option maxRecDepth 100000
set_option maxHeartbeats 4000000
set_option autoImplicit false
namespace Hc
open PySem L2
def psL (l : Lt) (r : List Int) : List (Int × Int) := (l.1.map fun j => ((j : Nat) : Int)).zip r
def lineS (l : Lt) (r : List Int) : Str := fLetter l.2 (psL l r)
theorem map_get {α β : Type} {f : α → β} {L : List α} {i : Nat} {x : β} (h : (L.map f)[i]? = some x) : ∃ a, L[i]? = some a ∧ x = f a := by
  rw [List.getElem?_map] at h
  cases e : L[i]? with
  | none => rw [e] at h; cases h
  | some a => rw [e] at h; exact ⟨a, rfl, (Option.some.inj h).symm⟩
theorem l1s : (" " : Str).length ≤ 1 := by decide +kernel
theorem l7 : ("letter " : Str).length ≤ 7 := by decide +kernel
theorem l0e : Str.empty.length ≤ 0 := by decide
theorem fPair_len {a b : Int} (ha : NumOk a) (hb : NumOk b) : (fPair a b).length ≤ 25 := ja (ja (ja l0e ha.len) l1s) hb.len
theorem join_len {ws : List Str} {k m : Nat} (h : ∀ w ∈ ws, w.length ≤ k) (hn : ws.length ≤ m) : (Txt.join " " ws).length ≤ (k + 1) * m := by
  rw [TL.len_tl, TL.join_eq, TL.tl_join, tl_sp]
  have key : ∀ L : List (List Nat), (∀ x ∈ L, x.length ≤ k) → (TL.joinL [32] L).length ≤ (k + 1) * L.length := by
    intro L
    induction L with
    | nil => intro _; simp [TL.joinL]
    | cons a r ih =>
      intro hL
      have h1 := hL a (List.mem_cons_self ..)
      have h2 := ih fun x hx => hL x (List.mem_cons_of_mem _ hx)
      cases r with
      | nil => simp only [TL.joinL, List.length_cons, List.length_nil]; omega
      | cons b r =>
        rw [joinL_cons2 [32] a (by simp), List.length_append, List.length_append]
        rw [show (a :: b :: r).length = (b :: r).length + 1 from rfl, Nat.mul_add]
        generalize (k + 1) * (b :: r).length = M at *
        simp only [List.length_cons, List.length_nil] at h1 ⊢
        omega
  refine Nat.le_trans (key _ fun x hx => ?_) ?_
  · obtain ⟨w, hw, rfl⟩ := List.mem_map.mp hx
    have := h w hw
    rwa [TL.len_tl] at this
  · rw [List.length_map]; exact Nat.mul_le_mul_left _ hn
section
variable {P : Program} {w : World} {K : PySem.W.Frag} {mg : Str → Option Value} {base : Heap}
def spLine : Sp := fun vs H Q _ => ∃ (q a b : Addr) (l : Lt) (r : List Int), vs = [.ref q, .ref b] ∧ H q = some (.tup [.ref a, .int l.2]) ∧ H a = some (.tup (l.1.map fun j => V.int (j : Nat))) ∧ H b = some (.tup (r.map V.int)) ∧
  r.length = l.1.length ∧ l.1.length ≤ 8 ∧ NumOk l.2 ∧ (∀ j ∈ l.1, j < 1000) ∧ (∀ x ∈ r, NumOk x) ∧ ∀ H', Same H H' → Q (.str (lineS l r)) H'
theorem lineS_len {l : Lt} {r : List Int} (hl : r.length = l.1.length) (h8 : l.1.length ≤ 8) (hc : NumOk l.2) (hj : ∀ j ∈ l.1, j < 1000) (hr : ∀ x ∈ r, NumOk x) : (lineS l r).length ≤ 1000 := by
  have a3 := ja (ja (ja l0e l7) hc.len) l1s
  have a4 : (Txt.join " " ((psL l r).map fun p => fPair p.1 p.2)).length ≤ (25 + 1) * 8 := join_len (fun w hw => by
    obtain ⟨p, hp, rfl⟩ := List.mem_map.mp hw
    obtain ⟨h1, h2⟩ := List.of_mem_zip hp
    obtain ⟨j, hj', e⟩ := List.mem_map.mp h1
    have := hj j hj'
    exact fPair_len (by rw [← e]; exact ⟨by omega, by omega⟩) (hr _ h2)) (by unfold psL; rw [List.length_map, List.length_zip, List.length_map, hl]; omega)
  exact Nat.le_trans (ja a3 a4) (by decide)
/-- the text of a day -/
def lineLs (ls : List Lt) (rows : List (List Int)) : List Str := (ls.zip rows).map fun p => lineS p.1 p.2
def dayS (n : Int) (rds : List D) (rm tm : List Int) (ls : List Lt) (rows : List (List Int)) : Str := webS n rds rm tm ++ closedS (lineLs ls rows)
structure TxtOk (n : Int) (rds : List D) (ls : List Lt) (rows : List (List Int)) : Prop where
  n : NumOk n
  o : LsOk rds ls
  l : ls.length ≤ 60
  ln : LenOk ls rows
  hr : ∀ r ∈ rows, ∀ x ∈ r, NumOk x
theorem closed_len {ls : List Str} {k m : Nat} (h : ∀ l ∈ ls, l.length ≤ k) (hn : ls.length ≤ m) : (closedS ls).length ≤ (k + 1) * m := by
  rw [TL.len_tl, tl_closed, List.length_flatten]
  refine Nat.le_trans (sum_le (m := k + 1) fun x hx => ?_) ?_
  · rw [List.map_map] at hx
    obtain ⟨l, hl, rfl⟩ := List.mem_map.mp hx
    have := h l hl
    rw [TL.len_tl] at this
    show (TL.tl l ++ [10]).length ≤ k + 1
    rw [List.length_append]
    simpa using this
  · rw [List.length_map, List.length_map, Nat.mul_comm]; exact Nat.mul_le_mul_left _ hn
theorem webLs_len {C : Addr} {H : Hp} {h p : Addr} {n : Int} {rds : List D} {rm tm : List Int} (W : WebR C H h p n rds rm tm) (hn : NumOk n) : ∀ l ∈ webLs n rds rm tm, l.length ≤ 1000 := by
  intro l hl
  rcases List.mem_cons.mp hl with rfl | hl
  · exact Nat.le_trans (ja (ja l0e (show ("web " : Str).length ≤ 4 by decide +kernel)) hn.len) (by decide)
  · obtain ⟨i, hi, rfl⟩ := List.mem_map.mp hl
    obtain ⟨b, e, r, t, er, _, _, _, nb, ne, nr, nt⟩ := road_ok W hn (List.mem_range.mp hi)
    rw [er]
    exact Nat.le_trans (ja (ja (ja (ja (ja (ja (ja (ja l0e (show ("road " : Str).length ≤ 5 by decide +kernel)) nb.len) l1s) ne.len) l1s) nr.len) l1s) nt.len) (by decide)
def spDayText (C CW : Addr) : Sp := fun vs H Q _ => ∃ (h p : Addr) (n : Int) (rds : List D) (rm tm : List Int) (ls : List Lt) (rows : List (List Int)), vs = [.ref p] ∧ DayX C CW H h p n rds rm tm (ltsD ls) (rowsD rows) ∧ TxtOk n rds ls rows ∧ ∀ H', Same H H' → Q (.str (dayS n rds rm tm ls rows)) H'
end
end Hc


set_option Elab.async false
set_option linter.all false
set_option pp.maxSteps 900
set_option maxRecDepth 100000
set_option maxHeartbeats 4000000
set_option autoImplicit false
namespace Hc
open PySem L2
/-- a comprehension over a text's signs -/
theorem lc_str {x : Str} {g : TG} {tt : TT} {te : TE} {vs : List Nat} {σ : St} {H1 : Hp} {D : Addr} {Qd : Hp → Prop} (Pv : Nat → Hp → Prop) (h0 : Pv 0 (upd H1 D (.lst [])))
    (hs : ∀ i c H, x.cps[i]? = some c → Pv i H → g (.str ⟨#[c]⟩) (wipe σ vs) H fun σ2 H2 => wipe σ2 vs = wipe σ vs ∧ tt σ2 H2 fun b H3 =>
      if b = true then te σ2 H3 fun y H4 => ∃ acc, H4 D = some (.lst acc) ∧ acc.length < sizeLine ∧ Pv (i + 1) (upd H4 D (.lst (acc ++ [y]))) else Pv (i + 1) H3) (hd : ∀ H, Pv x.cps.size H → Qd H) :
    ∃ W : Nat → Nat → Hp → Prop, (∃ m, W 0 m (upd H1 D (.lst []))) ∧ ∀ i m H, W i m H →
      ((Its x).stop i H ∧ Qd H) ∨ ((Its x).go i H ∧ ∃ Nx : Hp → Prop, (∀ H', Nx H' → ∃ m', m' < m ∧ W (i + 1) m' H') ∧ ∀ v H', (Its x).yld i H v H' → g v (wipe σ vs) H' fun σ2 H2 => wipe σ2 vs = wipe σ vs ∧ tt σ2 H2 fun b H3 =>
        if b = true then te σ2 H3 fun y H4 => ∃ acc, H4 D = some (.lst acc) ∧ acc.length < sizeLine ∧ Nx (upd H4 D (.lst (acc ++ [y]))) else Nx H3) := by
  refine ⟨fun i m H => m = x.cps.size - i ∧ i ≤ x.cps.size ∧ Pv i H, ⟨x.cps.size, by simp, Nat.zero_le _, h0⟩, ?_⟩
  rintro i m H ⟨rfl, hi, p⟩
  by_cases hlt : i < x.cps.size
  · refine .inr ⟨hlt, Pv (i + 1), fun H' p' => ⟨x.cps.size - (i + 1), by omega, rfl, hlt, p'⟩, fun v H' y => ?_⟩
    obtain ⟨rfl, c, hc, rfl⟩ := y
    exact hs i c _ hc p
  · have e : i = x.cps.size := by omega
    subst e
    exact .inl ⟨Nat.le_refl _, hd H p⟩
def FIG : List Nat := ("0123456789" : Str).cps.toList
def isNumS (w : Str) : Bool := decide (1 ≤ (w.length : Int)) && decide ((w.length : Int) ≤ 9) && ((TL.tl w).map fun c => decide (c ∈ FIG)).all id && (decide (V.str w = V.str "0") || !Txt.startswith w "0")
section
variable {P : Program} {w : World} {K : PySem.W.Frag} {mg : Str → Option Value} {base : Heap}
def spIsNum : Sp := fun vs H Q _ => ∃ (x : Str), vs = [.str x] ∧ x.length ≤ 100000 ∧ ∀ H', Same H H' → Q (.bl (isNumS x)) H'
theorem ok_is_number (T : Tx K mg) : FnOk P w K mg base CX0 1 T.is_number.f T.is_number.fd ["word"] spIsNum := by
  refine T.is_number.F.ok sc_is_number (fun vs H Q E h => ?_) (fun cdv A outer s H vs Q E hr h => ?_)
  · obtain ⟨x, rfl, _⟩ := h
    rfl
  · obtain ⟨x, rfl, hx, k⟩ := h
    refine ⟨_, (pss_one (ps_ret (pe_and (pe_chain op_le op_le pe_int (pe_callB call_len_str (by rfl) T.n_len (by decide +kernel) (pa_cons (pv 0) pa_nil)) (pe_glob (v := .int 9) rfl T.c_MOST_FIGURES.choose_spec ⟨_, rfl⟩)) (pe_and (pe_callB (cr_all rfl) (by rfl) T.n_all (by decide +kernel) (pa_cons (pe_lc (own := [("sign", 1)]) (g := (gName 1)) (tt := tYes) rfl sc_is_number.nd (pi_str (pv 0)) (blkOk_by (own := [("sign", 1)]) (N := ["word", "sign"]) (sc := defScope s_is_number) (by decide +kernel)) (fun _ _ _ _ _ => (pg_name (i := 1) sc_is_number.nd rfl (Or.inl rfl))) (fun _ _ _ _ _ => pts_nil) (fun _ _ _ _ _ => (by exact (pe_cmpR op_in_sign (pv 1) (pe_glob (v := .str "0123456789") rfl T.c_FIGURES.choose_spec ⟨_, rfl⟩) (by rfl))))) pa_nil)) (pe_one (pe_or (pe_cmpR op_eq (pv 0) pe_str (nomark _)) (pe_one (pe_not (pe_m1 PySem.F.slot_str_startswith PySem.F.type_str_startswith mt_startswith (pv 0) pe_str))))))))), ?_⟩
    refine ⟨_, rfl, _, rfl, line_le hx, _, _, rfl, rfl, _, rfl, ?_⟩
    have gen : ∀ b, isNumS x = b → ∀ H', Same H H' → Q (.bl b) H' := fun b e H' s => e ▸ k H' s
    by_cases h1 : (1 : Int) ≤ (x.length : Int)
    · rw [decide_eq_true h1]
      refine iteT ⟨_, _, rfl, rfl, _, rfl, ?_⟩
      by_cases h2 : (x.length : Int) ≤ 9
      · rw [decide_eq_true h2]
        refine iteT ⟨_, rfl, x, rfl, fun D hD => ?_⟩
        refine lc_str (x := x) (fun i H' => Same H H' ∧ H' D = some (.lst (((x.cps.toList.take i).map fun c => decide (c ∈ FIG)).map V.bl))) ⟨same_upd hD, upd_same⟩ ?_ ?_
        · rintro i c H2 hc ⟨s2, eD⟩
          have hc' : x.cps.toList[i]? = some c := by rw [Array.getElem?_toList]; exact hc
          refine ⟨rfl, tyes ⟨_, rfl, c, ("0123456789" : Str), rfl, rfl, _, eD, ?_, same_putX s2 hD, ?_⟩⟩
          · rw [List.length_map, List.length_map, List.length_take]
            have : i < x.cps.size := (Array.getElem?_eq_some_iff.mp hc).1
            exact Nat.lt_of_le_of_lt (Nat.min_le_left _ _) (Nat.lt_of_lt_of_le this (line_le hx))
          · rw [upd_same, take_more hc', List.map_append, List.map_append]
            rfl
        · rintro H2 ⟨s2, eD⟩
          have ee : x.cps.size = x.cps.toList.length := (Array.length_toList).symm
          rw [ee, List.take_length] at eD
          refine ⟨D, _, rfl, SqL.of eD, _, rfl, ?_⟩
          cases ha : ((x.cps.toList.map fun c => decide (c ∈ FIG)).all id) with
          | false =>
            refine iteF (gen false ?_ H2 s2)
            unfold isNumS TL.tl
            rw [ha, Bool.and_false, Bool.false_and]
          | true =>
            refine iteT ⟨_, rfl, rfl, _, rfl, ?_⟩
            have e3 : isNumS x = (decide (V.str x = V.str "0") || !Txt.startswith x "0") := by
              unfold isNumS TL.tl
              rw [ha, decide_eq_true h1, decide_eq_true h2]
              simp
            cases hz : decide (V.str x = V.str "0") with
            | true =>
              refine iteT (gen true ?_ H2 s2)
              rw [e3, hz]; rfl
            | false =>
              rw [hz] at e3
              refine iteF ⟨_, rfl, ⟨_, rfl⟩, _, _, rfl, rfl, _, rfl, ?_⟩
              exact gen _ e3 H2 s2
      · rw [decide_eq_false h2]
        refine iteF (gen false ?_ H (Same.refl H))
        unfold isNumS
        rw [decide_eq_false h2, Bool.and_false, Bool.false_and, Bool.false_and]
    · rw [decide_eq_false h1]
      refine iteF ⟨_, rfl, iteF (gen false ?_ H (Same.refl H))⟩
      unfold isNumS
      rw [decide_eq_false h1, Bool.false_and, Bool.false_and, Bool.false_and]
end
end Hc


set_option Elab.async false
set_option linter.all false
set_option pp.maxSteps 900
set_option maxRecDepth 100000
set_option maxHeartbeats 4000000
set_option autoImplicit false
namespace Hc
open PySem L2
def isFormS (w : Str) (ws : List Str) : Bool :=
  if ws.all isNumS = false then false
  else if decide (V.str w = V.str "letter") = true then (decide ((1 : Int) < (ws.length : Int)) && decide (((ws.length % 2 : Nat) : Int) = 1))
  else decide ((ws.length : Int) = if decide (V.str w = V.str "web") = true then 1 else 4)
section
variable {P : Program} {w : World} {K : PySem.W.Frag} {mg : Str → Option Value} {base : Heap}
def spForm : Sp := fun vs H Q _ => ∃ (x : Str) (p : Addr) (ws : List Str), vs = [.str x, .ref p] ∧ H p = some (.lst (ws.map V.str)) ∧ (∀ y ∈ ws, y.length ≤ 100000) ∧ ws.length ≤ 100000 ∧ ∀ H', Same H H' → Q (.bl (isFormS x ws)) H'
theorem ok_is_form (T : Tx K mg) : FnOk P w K mg base CX0 2 T.is_form.f T.is_form.fd ["word", "rest"] spForm := by
  refine T.is_form.F.ok sc_is_form (fun vs H Q E h => ?_) (fun cdv A outer s H vs Q E hr h => ?_)
  · obtain ⟨x, p, ws, rfl, _⟩ := h
    rfl
  · obtain ⟨x, p, ws, rfl, hp, hw, hn, k⟩ := h
    refine ⟨_, (pss_cons (ps_if (pt_not (pt_val (pe_callB (cr_all rfl) (by rfl) T.n_all (by decide +kernel) (pa_cons (pe_lc (own := [("figures", 2)]) (g := (gName 2)) (tt := tYes) rfl sc_is_form.nd (pi_list (pv 1)) (blkOk_by (own := [("figures", 2)]) (N := ["word", "rest", "figures"]) (sc := defScope s_is_form) (by decide +kernel)) (fun _ _ _ _ _ => (pg_name (i := 2) sc_is_form.nd rfl (Or.inl rfl))) (fun _ _ _ _ _ => pts_nil) (fun _ _ _ _ _ => (by exact (pe_call (ok_is_number T) (hr.mono (by decide)) rfl T.is_number.g T.is_number.F.kp T.is_number.b .nil pass0 (pa_cons (pv 2) pa_nil))))) pa_nil))))
      (pss_one (ps_ret pe_bl))
      pss_nil)
      (pss_cons (ps_if (pt_cmpR op_eq (pv 0) pe_str (nomark _))
      (pss_one (ps_ret (pe_and (pe_cmpR op_gt (pe_callB call_len_seq (by rfl) T.n_len (by decide +kernel) (pa_cons (pv 1) pa_nil)) pe_int (nomark _)) (pe_one (pe_cmpR op_eq (pe_op op_odd (pe_callB call_len_seq (by rfl) T.n_len (by decide +kernel) (pa_cons (pv 1) pa_nil)) pe_int) pe_int (nomark _))))))
      pss_nil)
      (pss_one (ps_ret (pe_cmpR op_eq (pe_callB call_len_seq (by rfl) T.n_len (by decide +kernel) (pa_cons (pv 1) pa_nil)) (pe_ifExp (pt_cmpR op_eq (pv 0) pe_str (nomark _)) pe_int pe_int) (nomark _)))))), ?_⟩
    have gen : ∀ b, isFormS x ws = b → ∀ H', Same H H' → Q (.bl b) H' := fun b e H' s => e ▸ k H' s
    refine ⟨_, rfl, p, rfl, ⟨_, SqL.of hp⟩, fun D hD => ?_⟩
    refine lc_list (K := K) (a := p) (xs := ws.map V.str) (fun i H' => Same H H' ∧ H' D = some (.lst (((ws.take i).map isNumS).map V.bl))) ⟨same_upd hD, upd_same⟩ (fun i H' _ ⟨z, _⟩ => SqL.of (z _ _ hp)) ?_ ?_
    · rintro i v H2 hv ⟨s2, eD⟩
      obtain ⟨y, ey, rfl⟩ := map_get hv
      have hi : i < ws.length := (List.getElem?_eq_some_iff.mp ey).1
      refine ⟨rfl, tyes ⟨_, rfl, y, rfl, hw y (List.mem_of_getElem? ey), fun H3 s3 => ⟨_, s3 _ _ eD, ?_, same_putX (s2.trans s3) hD, ?_⟩⟩⟩
      · rw [List.length_map, List.length_map, List.length_take]; exact line_lt (by omega)
      · rw [upd_same, take_more ey, List.map_append, List.map_append]; rfl
    · rintro H2 ⟨s2, eD⟩
      rw [List.length_map, List.take_length] at eD
      refine ⟨D, _, rfl, SqL.of eD, _, rfl, ?_⟩
      have ea : (ws.map isNumS).all id = ws.all isNumS := by rw [List.all_map]; rfl
      rw [ea]
      cases ha : ws.all isNumS with
      | false => exact iteT (gen false (by unfold isFormS; rw [ha]; rfl) H2 s2)
      | true =>
        refine iteF ⟨_, rfl, rfl, _, rfl, ?_⟩
        have hp2 := s2 _ _ hp
        have ln : (ws.map V.str).length = ws.length := List.length_map _
        cases hl : decide (V.str x = V.str "letter") with
        | true =>
          refine iteT ⟨_, rfl, p, _, rfl, .inl (SqL.of hp2), _, _, rfl, rfl, _, rfl, ?_⟩
          rw [ln]
          have e1 : isFormS x ws = (decide ((1 : Int) < (ws.length : Int)) && decide (((ws.length % 2 : Nat) : Int) = 1)) := by
            unfold isFormS
            rw [ha, hl, if_neg (by decide), if_pos rfl]
          by_cases h1 : (1 : Int) < (ws.length : Int)
          · rw [decide_eq_true h1] at e1 ⊢
            refine iteT ⟨_, rfl, p, _, rfl, .inl (SqL.of hp2), ws.length, by rw [ln], rfl, rfl, ?_⟩
            rw [int_eqd]
            exact gen _ e1 H2 s2
          · rw [decide_eq_false h1] at e1 ⊢
            exact iteF (gen _ e1 H2 s2)
        | false =>
          have e1 : isFormS x ws = decide ((ws.length : Int) = if decide (V.str x = V.str "web") = true then 1 else 4) := by
            unfold isFormS
            rw [ha, hl, if_neg (by decide), if_neg (by decide)]
          refine iteF ⟨_, rfl, p, _, rfl, .inl (SqL.of hp2), _, rfl, rfl, _, rfl, ?_⟩
          rw [ln]
          cases hb : decide (V.str x = V.str "web") with
          | true =>
            rw [hb, if_pos rfl] at e1
            refine iteT ⟨rfl, ?_⟩
            rw [int_eqd]
            exact gen _ e1 H2 s2
          | false =>
            rw [hb, if_neg (by decide)] at e1
            refine iteF ⟨rfl, ?_⟩
            rw [int_eqd]
            exact gen _ e1 H2 s2
end
end Hc


set_option Elab.async false
set_option linter.all false
set_option maxRecDepth 100000
set_option maxHeartbeats 2000000
set_option autoImplicit false
namespace Hc
open PySem L2
theorem fig_eq : FIG = [48, 49, 50, 51, 52, 53, 54, 55, 56, 57] := by decide +kernel
theorem mem_fig {c : Nat} : c ∈ FIG ↔ 48 ≤ c ∧ c ≤ 57 := by
  rw [fig_eq]
  simp only [List.mem_cons, List.not_mem_nil, or_false]
  omega
theorem num_digits {x : Str} (h : isNumS x = true) : NumText.AllDigits (TL.tl x) := by
  unfold isNumS at h
  rw [Bool.and_eq_true, Bool.and_eq_true, Bool.and_eq_true] at h
  intro c hc
  have h3 := List.all_eq_true.mp h.1.2 (decide (c ∈ FIG)) (List.mem_map.mpr ⟨c, hc, rfl⟩)
  have := mem_fig.mp (of_decide_eq_true h3)
  exact this
theorem num_len {x : Str} (h : isNumS x = true) : 1 ≤ x.length ∧ x.length ≤ 9 := by
  unfold isNumS at h
  rw [Bool.and_eq_true, Bool.and_eq_true, Bool.and_eq_true] at h
  have h1 := of_decide_eq_true h.1.1.1
  have h2 := of_decide_eq_true h.1.1.2
  exact ⟨by omega, by omega⟩
/-- a word's number -/
def numOf (x : Str) : Int := ((NumText.digitsVal (TL.tl x) : Nat) : Int)
theorem num_int {x : Str} (h : isNumS x = true) : intText? x = some (numOf x) := by
  obtain ⟨h1, h2⟩ := num_len h
  exact intText_digits (num_digits h) (fun z => by rw [TL.len_tl] at h1; rw [show TL.tl x = [] from z] at h1; simp at h1) (by omega)
theorem numL_head : ∀ n : Nat, 0 < n → ∀ c r, TL.numL n = c :: r → c ≠ 48 := by
  intro n
  induction n using Nat.strongRecOn with
  | _ n ih =>
    intro hn c r e
    by_cases h : n < 10
    · rw [TL.numL_lt h] at e
      injection e with e1 e2
      omega
    · rw [TL.numL_step (by omega)] at e
      cases q : TL.numL (n / 10) with
      | nil => exact absurd q (TL.numL_ne _)
      | cons d s =>
        rw [q] at e
        injection e with e1 e2
        subst e1
        exact ih (n / 10) (by omega) (by omega) d s q
theorem sw_zero (x : Str) : Txt.startswith x "0" = true ↔ ∃ r, TL.tl x = 48 :: r := by
  have hz : TL.tl ("0" : Str) = [48] := by decide +kernel
  have h0 : ("0" : Str).length = 1 := by decide +kernel
  unfold Txt.startswith
  rw [Bool.and_eq_true, decide_eq_true_eq, h0]
  rw [StrLaws.subAt_eq, h0, TL.len_tl, List.drop_zero]
  show (0 + 1 ≤ (TL.tl x).length ∧ ((TL.tl x).take 1 == TL.tl ("0" : Str)) = true) ↔ _
  rw [hz]
  generalize TL.tl x = l
  cases l with
  | nil => simp
  | cons c r => simp
theorem num_sn {n : Nat} (h : n < 1000000000) : isNumS (sn (n : Int)) = true := by
  have hl : (TL.numL n).length ≤ 9 := TL.numL_len (by decide) (by show n < 10 ^ 9; omega)
  have h1 : 1 ≤ (TL.numL n).length := by
    have := TL.numL_ne n
    cases q : TL.numL n with
    | nil => exact absurd q this
    | cons _ _ => simp
  have el : (sn (n : Int)).length = (TL.numL n).length := by rw [TL.len_tl, tl_sn]
  unfold isNumS
  rw [Bool.and_eq_true, Bool.and_eq_true, Bool.and_eq_true, el]
  refine ⟨⟨⟨decide_eq_true (by omega), decide_eq_true (by omega)⟩, ?_⟩, ?_⟩
  · rw [tl_sn, List.all_eq_true]
    intro b hb
    obtain ⟨c, hc, rfl⟩ := List.mem_map.mp hb
    exact decide_eq_true (mem_fig.mpr (TL.numL_digits n c hc))
  · by_cases z : n = 0
    · subst z
      have : sn ((0 : Nat) : Int) = "0" := by decide +kernel
      rw [this]; rfl
    · rw [Bool.or_eq_true]
      refine .inr ?_
      rw [Bool.not_eq_true']
      cases q : Txt.startswith (sn (n : Int)) "0" with
      | false => rfl
      | true =>
        obtain ⟨r, e⟩ := (sw_zero _).mp q
        rw [tl_sn] at e
        exact absurd rfl (numL_head n (by omega) 48 r e)
theorem numOf_sn (n : Nat) : numOf (sn (n : Int)) = (n : Int) := by
  unfold numOf
  rw [tl_sn, TL.numL_val]
theorem fm_get {α β : Type} (f : α → Option β) : ∀ (l : List α) (i : Nat), (∀ x ∈ l, ∃ y, f x = some y) → (l.filterMap f)[i]? = (l[i]?).bind f
  | [], i, _ => by simp
  | a :: l, i, h => by
    obtain ⟨y, e⟩ := h a (List.mem_cons_self ..)
    rw [List.filterMap_cons, e]
    cases i with
    | zero => simp [e]
    | succ i =>
      show (l.filterMap f)[i]? = _
      rw [fm_get f l i fun x hx => h x (List.mem_cons_of_mem _ hx)]
      simp
theorem evn_get {α : Type} (L : List α) (k i : Nat) : (evn L k)[i]? = L[k + 2 * i]? := by
  unfold evn
  rw [fm_get _ _ _ fun x hx => ?_]
  · by_cases h : i < (L.length + 1 - k) / 2
    · rw [List.getElem?_range h]; rfl
    · rw [List.getElem?_eq_none (by rw [List.length_range]; omega), List.getElem?_eq_none (by omega)]; rfl
  · have := List.mem_range.mp hx
    exact ⟨_, List.getElem?_eq_getElem (by omega)⟩
def flat2 (ps : List (Int × Int)) : List Int := (ps.map fun p => [p.1, p.2]).flatten
theorem flat2_cons (p : Int × Int) (ps : List (Int × Int)) : flat2 (p :: ps) = p.1 :: p.2 :: flat2 ps := by unfold flat2; simp
theorem flat2_get : ∀ (ps : List (Int × Int)) (i : Nat), (flat2 ps)[2 * i]? = (ps[i]?).map (·.1) ∧ (flat2 ps)[2 * i + 1]? = (ps[i]?).map (·.2)
  | [], i => by simp [flat2]
  | p :: ps, 0 => by rw [flat2_cons]; simp
  | p :: ps, i + 1 => by
    have h := flat2_get ps i
    rw [flat2_cons]
    rw [show 2 * (i + 1) = 2 * i + 1 + 1 by omega]
    simpa using h
theorem evn_one (c : Int) (ps : List (Int × Int)) : evn (c :: flat2 ps) 1 = ps.map (·.1) := by
  refine List.ext_getElem? fun i => ?_
  rw [evn_get, show 1 + 2 * i = 2 * i + 1 by omega, List.getElem?_cons_succ, (flat2_get ps i).1, List.getElem?_map]
theorem evn_two (c : Int) (ps : List (Int × Int)) : evn (c :: flat2 ps) 2 = ps.map (·.2) := by
  refine List.ext_getElem? fun i => ?_
  rw [evn_get, show 2 + 2 * i = (2 * i + 1) + 1 by omega, List.getElem?_cons_succ, (flat2_get ps i).2, List.getElem?_map]
theorem flat2_len (ps : List (Int × Int)) : (flat2 ps).length = 2 * ps.length := by
  induction ps with
  | nil => rfl
  | cons p ps ih => rw [flat2_cons]; simp only [List.length_cons, ih]; omega
end Hc


set_option Elab.async false
set_option linter.all false
set_option maxRecDepth 100000
set_option maxHeartbeats 2000000
set_option autoImplicit false
namespace Hc
open PySem L2
theorem spl_ne : ∀ (l : List Nat) (S : List Nat) (k : Nat) (acc : List Nat), TL.spl S k acc l ≠ []
  | [], S, k, acc => by rw [TL.spl_nil]; simp
  | c :: r, S, 0, acc => by
    show (if TL.pre S (c :: r) = true then acc :: TL.spl S (S.length - 1) [] r else TL.spl S 0 (acc ++ [c]) r) ≠ []
    split
    · simp
    · exact spl_ne r S 0 _
  | c :: r, S, k + 1, acc => spl_ne r S k acc
theorem spl_mem_len : ∀ (l : List Nat) (S : List Nat) (k : Nat) (acc : List Nat), ∀ p ∈ TL.spl S k acc l, p.length ≤ acc.length + l.length
  | [], S, k, acc => by
    rw [TL.spl_nil]
    intro p hp
    rw [List.mem_singleton.mp hp]
    exact Nat.le_add_right _ _
  | c :: r, S, 0, acc => by
    intro p hp
    change p ∈ (if TL.pre S (c :: r) = true then acc :: TL.spl S (S.length - 1) [] r else TL.spl S 0 (acc ++ [c]) r) at hp
    split at hp
    · rcases List.mem_cons.mp hp with rfl | hp
      · exact Nat.le_add_right _ _
      · have := spl_mem_len r S _ _ p hp
        simp only [List.length_nil, List.length_cons] at this ⊢
        omega
    · have := spl_mem_len r S _ _ p hp
      simp only [List.length_append, List.length_nil, List.length_cons] at this ⊢
      omega
  | c :: r, S, k + 1, acc => by
    intro p hp
    have := spl_mem_len r S k acc p hp
    simp only [List.length_cons] at this ⊢
    omega
def Sep (y : Str) : Prop := TL.tl y ≠ [] ∧ y.cps.all (· < 256) = true
theorem sep_sp : Sep " " := ⟨by rw [tl_sp]; simp, by decide +kernel⟩
theorem sep_nl : Sep "\n" := ⟨by rw [tl_nl]; simp, by decide +kernel⟩
theorem split_ne {x y : Str} (h : Sep y) : Txt.split x y ≠ [] := fun z => by
  have e := TL.split_spl x y h.1 (TL.kind_ok h.2)
  rw [z] at e
  exact spl_ne _ _ _ _ e.symm
theorem split_word {x y : Str} (h : Sep y) {w : Str} (hw : w ∈ Txt.split x y) : w.length ≤ x.length := by
  have e := TL.split_spl x y h.1 (TL.kind_ok h.2)
  have hm : TL.tl w ∈ TL.spl (TL.tl y) 0 [] (TL.tl x) := by rw [← e]; exact List.mem_map.mpr ⟨w, hw, rfl⟩
  have := spl_mem_len _ _ _ _ _ hm
  rw [TL.len_tl, TL.len_tl]
  simpa using this
/-- a line's first word, and the others -/
def wordOf (line : Str) : Str := (Txt.split line " ").headD ""
def restOf (line : Str) : List Str := (Txt.split line " ").tail
theorem split_wr (line : Str) : Txt.split line " " = wordOf line :: restOf line := by
  unfold wordOf restOf
  have := split_ne (x := line) sep_sp
  cases h : Txt.split line " " with
  | nil => exact absurd h this
  | cons a r => rfl
theorem rest_word {line w : Str} (h : w ∈ restOf line) : w.length ≤ line.length := by
  refine split_word (y := " ") sep_sp ?_
  rw [split_wr]
  exact List.mem_cons_of_mem _ h
theorem word_len (line : Str) : (wordOf line).length ≤ line.length := by
  refine split_word (y := " ") sep_sp ?_
  rw [split_wr]
  exact List.mem_cons_self ..
/-- what may stand behind a line of this word -/
def behindS (l : Str) : List Str := if l = "" then ["web"] else if l = "web" then ["road"] else if l = "road" then ["road", "letter"] else ["letter"]
theorem beh0 : behindS "" = [("web" : Str)] := by decide +kernel
theorem beh1 : behindS "web" = [("road" : Str)] := by decide +kernel
theorem beh2 : behindS "road" = [("road" : Str), "letter"] := by decide +kernel
theorem beh3 : behindS "letter" = [("letter" : Str)] := by decide +kernel
def lastW (ls : List Str) : Nat → Str
  | 0 => ""
  | i + 1 => wordOf (ls.getD i "")
def okLine (ws : List Str) (last line : Str) : Bool := inV (.str (wordOf line)) (ws.map V.str) && (inV (.str (wordOf line)) ((behindS last).map V.str) && isFormS (wordOf line) (restOf line))
def rowOf (line : Str) : Str × List Int := (wordOf line, (restOf line).map numOf)
def KEYS : List Str := ["", "web", "road", "letter"]
theorem in_str {x : Str} {ws : List Str} : inV (.str x) (ws.map V.str) = true ↔ x ∈ ws := by
  unfold inV
  rw [List.any_eq_true]
  constructor
  · rintro ⟨v, hv, e⟩
    obtain ⟨w, hw, rfl⟩ := List.mem_map.mp hv
    have : (w == x) = true := e
    rw [← eq_of_beq this]
    exact hw
  · intro h
    exact ⟨.str x, List.mem_map.mpr ⟨x, h, rfl⟩, beq_self_eq_true x⟩
theorem ok_key {ws : List Str} {last line : Str} (h : okLine ws last line = true) : wordOf line ∈ (["web", "road", "letter"] : List Str) := by
  unfold okLine at h
  rw [Bool.and_eq_true, Bool.and_eq_true] at h
  have h2 := in_str.mp h.2.1
  unfold behindS at h2
  split at h2
  · rw [List.mem_singleton.mp h2]; simp
  · split at h2
    · rw [List.mem_singleton.mp h2]; simp
    · split at h2
      · rcases List.mem_cons.mp h2 with h2 | h2
        · rw [h2]; simp
        · rw [List.mem_singleton.mp h2]; simp
      · rw [List.mem_singleton.mp h2]; simp
theorem ok_form {ws : List Str} {last line : Str} (h : okLine ws last line = true) : isFormS (wordOf line) (restOf line) = true := by
  unfold okLine at h
  rw [Bool.and_eq_true, Bool.and_eq_true] at h
  exact h.2.2
theorem form_nums {w : Str} {ws : List Str} (h : isFormS w ws = true) : ∀ x ∈ ws, isNumS x = true := by
  unfold isFormS at h
  split at h
  · cases h
  · next z => exact List.all_eq_true.mp (by simpa using z)
theorem last_key {ws : List Str} {ls : List Str} {i : Nat} (h : ∀ j < i, okLine ws (lastW ls j) (ls.getD j "") = true) : lastW ls i ∈ KEYS := by
  cases i with
  | zero => exact List.mem_cons_self ..
  | succ i => exact List.mem_cons_of_mem _ (ok_key (h i (Nat.lt_succ_self i)))
/-! ## the lines of webs and days -/
theorem sn_free {i : Int} (h : 0 ≤ i) {s : Nat} (hs : s < 48 ∨ 57 < s) : s ∉ TL.tl (sn i) := by
  obtain ⟨n, rfl⟩ := Int.eq_ofNat_of_zero_le h
  rw [tl_sn]
  exact TL.numL_free hs
theorem split_line {w : Str} {ns : List Int} (hw : 32 ∉ TL.tl w) (h : ∀ n ∈ ns, 0 ≤ n) : Txt.split (Txt.join " " (w :: ns.map sn)) " " = w :: ns.map sn := by
  refine split_words (by simp) fun x hx => ?_
  rcases List.mem_cons.mp hx with rfl | hx
  · exact hw
  · obtain ⟨n, hn, rfl⟩ := List.mem_map.mp hx
    exact sn_free (h n hn) (by omega)
/-- a line of the word w and the numbers ns -/
structure LineIs (line w : Str) (ns : List Int) : Prop where
  w : wordOf line = w
  r : restOf line = ns.map sn
def NumR (i : Int) : Prop := 0 ≤ i ∧ i < 1000000000
theorem lineIs {w : Str} {ns : List Int} (hw : 32 ∉ TL.tl w) (h : ∀ n ∈ ns, NumR n) : LineIs (Txt.join " " (w :: ns.map sn)) w ns := by
  have e := split_line hw fun n hn => (h n hn).1
  exact ⟨by unfold wordOf; rw [e]; rfl, by unfold restOf; rw [e]; rfl⟩
theorem nums_ok {ns : List Int} (h : ∀ n ∈ ns, NumR n) : (ns.map sn).all isNumS = true := by
  rw [List.all_eq_true]
  intro x hx
  obtain ⟨n, hn, rfl⟩ := List.mem_map.mp hx
  obtain ⟨h1, h2⟩ := h n hn
  obtain ⟨k, rfl⟩ := Int.eq_ofNat_of_zero_le h1
  exact num_sn (by omega)
theorem nums_back {ns : List Int} (h : ∀ n ∈ ns, NumR n) : (ns.map sn).map numOf = ns := by
  rw [List.map_map]
  conv => rhs; rw [← List.map_id ns]
  refine List.map_congr_left fun n hn => ?_
  obtain ⟨k, rfl⟩ := Int.eq_ofNat_of_zero_le (h n hn).1
  exact numOf_sn k
theorem LineIs.row {line w : Str} {ns : List Int} (L : LineIs line w ns) (h : ∀ n ∈ ns, NumR n) : rowOf line = (w, ns) := by
  unfold rowOf
  rw [L.w, L.r, nums_back h]
theorem form_web {n : Int} (h : NumR n) : isFormS "web" ([n].map sn) = true := by
  have hn : ([n].map sn).all isNumS = true := nums_ok (by intro x hx; rw [List.mem_singleton.mp hx]; exact h)
  unfold isFormS
  rw [hn, if_neg (by decide), if_neg (by decide +kernel), if_pos (by decide +kernel)]
  rfl
theorem form_road {ns : List Int} (h : ∀ n ∈ ns, NumR n) (hl : ns.length = 4) : isFormS "road" (ns.map sn) = true := by
  unfold isFormS
  rw [nums_ok h, if_neg (by decide), if_neg (by decide +kernel), if_neg (by decide +kernel), List.length_map, hl]
  rfl
theorem form_letter {ns : List Int} (h : ∀ n ∈ ns, NumR n) (hl : 1 < ns.length) (ho : ns.length % 2 = 1) : isFormS "letter" (ns.map sn) = true := by
  unfold isFormS
  rw [nums_ok h, if_neg (by decide), if_pos (by decide +kernel), List.length_map, ho, decide_eq_true (by omega)]
  rfl
theorem words2_flat (ps : List (Int × Int)) : words2 ps = (flat2 ps).map sn := by
  unfold words2 flat2
  induction ps with
  | nil => rfl
  | cons p r ih => simp only [List.map_cons, List.flatten_cons, List.map_append, ih]; rfl
def roadN (q : Int × Int × Int × Int) : List Int := [q.1, q.2.1, q.2.2.1, q.2.2.2]
def fQ (q : Int × Int × Int × Int) : Str := fRoad q.1 q.2.1 q.2.2.1 q.2.2.2
def QOk (q : Int × Int × Int × Int) : Prop := ∀ n ∈ roadN q, NumR n
theorem w_web : 32 ∉ TL.tl ("web" : Str) := by decide +kernel
theorem w_road : 32 ∉ TL.tl ("road" : Str) := by decide +kernel
theorem w_letter : 32 ∉ TL.tl ("letter" : Str) := by decide +kernel
theorem is_web {n : Int} (h : NumR n) : LineIs (fWeb n) "web" [n] := by
  rw [fWeb_join]
  exact lineIs (ns := [n]) w_web (by intro x hx; rw [List.mem_singleton.mp hx]; exact h)
theorem is_road {q : Int × Int × Int × Int} (h : QOk q) : LineIs (fQ q) "road" (roadN q) := by
  unfold fQ
  rw [fRoad_join]
  exact lineIs (ns := roadN q) w_road h
theorem is_let {c : Int} {ps : List (Int × Int)} (hp : ps ≠ []) (h : ∀ n ∈ c :: flat2 ps, NumR n) : LineIs (fLetter c ps) "letter" (c :: flat2 ps) := by
  rw [fLetter_join c hp, words2_flat]
  exact lineIs (ns := c :: flat2 ps) w_letter h
/-- all lines of a text: its web's, its roads', its letters' -/
def allLs (n : Int) (qs : List (Int × Int × Int × Int)) (ms : List (Int × List (Int × Int))) : List Str := fWeb n :: (qs.map fQ ++ ms.map fun m => fLetter m.1 m.2)
structure AllOk (n : Int) (qs : List (Int × Int × Int × Int)) (ms : List (Int × List (Int × Int))) : Prop where
  n : NumR n
  q : ∀ q ∈ qs, QOk q
  q1 : 1 ≤ qs.length
  m : ∀ m ∈ ms, m.2 ≠ [] ∧ ∀ x ∈ m.1 :: flat2 m.2, NumR x
theorem AllOk.rows {n : Int} {qs : List (Int × Int × Int × Int)} {ms : List (Int × List (Int × Int))} (A : AllOk n qs ms) :
    (allLs n qs ms).map rowOf = (("web" : Str), [n]) :: (qs.map (fun q => (("road" : Str), roadN q)) ++ ms.map fun m => (("letter" : Str), m.1 :: flat2 m.2)) := by
  unfold allLs
  rw [List.map_cons, List.map_append, List.map_map, List.map_map, (is_web A.n).row (by intro x hx; rw [List.mem_singleton.mp hx]; exact A.n)]
  congr 2
  · refine List.map_congr_left fun q hq => ?_
    exact (is_road (A.q q hq)).row (A.q q hq)
  · refine List.map_congr_left fun m hm => ?_
    exact (is_let (A.m m hm).1 (A.m m hm).2).row (A.m m hm).2
theorem AllOk.words {n : Int} {qs : List (Int × Int × Int × Int)} {ms : List (Int × List (Int × Int))} (A : AllOk n qs ms) :
    (allLs n qs ms).map wordOf = ("web" : Str) :: (List.replicate qs.length ("road" : Str) ++ List.replicate ms.length ("letter" : Str)) := by
  have := congrArg (List.map Prod.fst) A.rows
  rw [List.map_map] at this
  refine Eq.trans this ?_
  rw [List.map_cons, List.map_append, List.map_map, List.map_map]
  have c1 : qs.map (Prod.fst ∘ fun q => (("road" : Str), roadN q)) = List.replicate qs.length ("road" : Str) := List.map_const' ..
  have c2 : ms.map (Prod.fst ∘ fun m => (("letter" : Str), m.1 :: flat2 m.2)) = List.replicate ms.length ("letter" : Str) := List.map_const' ..
  rw [c1, c2]

theorem AllOk.len {n : Int} {qs : List (Int × Int × Int × Int)} {ms : List (Int × List (Int × Int))} : (allLs n qs ms).length = 1 + qs.length + ms.length := by
  unfold allLs
  simp only [List.length_cons, List.length_append, List.length_map]
  omega
theorem lastW_eq {ls : List Str} {i : Nat} (h : i < ls.length) : lastW ls (i + 1) = (ls.map wordOf).getD i "" := by
  show wordOf (ls.getD i "") = _
  rw [List.getD_eq_getElem?_getD, List.getD_eq_getElem?_getD, List.getElem?_map, List.getElem?_eq_getElem h]
  rfl
/-- each line stands where it may -/
theorem AllOk.ok {n : Int} {qs : List (Int × Int × Int × Int)} {ms : List (Int × List (Int × Int))} (A : AllOk n qs ms) {ws : List Str} (h1 : ("web" : Str) ∈ ws) (h2 : ("road" : Str) ∈ ws) (h3 : ms = [] ∨ ("letter" : Str) ∈ ws) :
    (∀ i < (allLs n qs ms).length, okLine ws (lastW (allLs n qs ms) i) ((allLs n qs ms).getD i "") = true) ∧ lastW (allLs n qs ms) (allLs n qs ms).length ∈ ([("road" : Str), "letter"] : List Str) := by
  have hw := A.words
  have q1 := A.q1
  have hlen := AllOk.len (n := n) (qs := qs) (ms := ms)
  have ge : ∀ i < (allLs n qs ms).length, lastW (allLs n qs ms) (i + 1) = if i = 0 then ("web" : Str) else if i ≤ qs.length then "road" else "letter" := by
    intro i hi
    rw [lastW_eq hi, hw]
    cases i with
    | zero => rfl
    | succ i =>
      rw [List.getD_eq_getElem?_getD, List.getElem?_cons_succ, if_neg (by omega)]
      by_cases hq : i < qs.length
      · rw [List.getElem?_append_left (by rw [List.length_replicate]; exact hq), List.getElem?_replicate, if_pos hq, if_pos (by omega)]; rfl
      · rw [List.getElem?_append_right (by rw [List.length_replicate]; omega), List.length_replicate, List.getElem?_replicate, if_pos (by omega), if_neg (by omega)]; rfl
  have mk : ∀ {last line : Str}, wordOf line ∈ ws → wordOf line ∈ behindS last → isFormS (wordOf line) (restOf line) = true → okLine ws last line = true := by
    intro last line a b c
    unfold okLine
    rw [in_str.mpr a, in_str.mpr b, c]
    rfl
  refine ⟨fun i hi => ?_, ?_⟩
  · cases i with
    | zero =>
      have e : (allLs n qs ms).getD 0 "" = fWeb n := rfl
      rw [e]
      have L := is_web A.n
      refine mk (by rw [L.w]; exact h1) (by rw [L.w]; show _ ∈ behindS ""; rw [beh0]; simp) (by rw [L.w, L.r]; exact form_web A.n)
    | succ i =>
      rw [ge i (by omega)]
      have eg : (allLs n qs ms).getD (i + 1) "" = (qs.map fQ ++ ms.map fun m => fLetter m.1 m.2).getD i "" := rfl
      rw [eg]
      by_cases hq : i < qs.length
      · have e : (qs.map fQ ++ ms.map fun m => fLetter m.1 m.2).getD i "" = fQ qs[i] := by
          rw [List.getD_eq_getElem?_getD, List.getElem?_append_left (by rw [List.length_map]; exact hq), List.getElem?_map, List.getElem?_eq_getElem hq]; rfl
        rw [e]
        have ok := A.q qs[i] (List.getElem_mem hq)
        have L := is_road ok
        refine mk (by rw [L.w]; exact h2) ?_ (by rw [L.w, L.r]; exact form_road ok rfl)
        rw [L.w]
        by_cases z : i = 0
        · rw [if_pos z, beh1]; simp
        · rw [if_neg z, if_pos (by omega), beh2]; simp
      · have hm : i - qs.length < ms.length := by omega
        have e : (qs.map fQ ++ ms.map fun m => fLetter m.1 m.2).getD i "" = fLetter ms[i - qs.length].1 ms[i - qs.length].2 := by
          rw [List.getD_eq_getElem?_getD, List.getElem?_append_right (by rw [List.length_map]; omega), List.length_map, List.getElem?_map, List.getElem?_eq_getElem hm]; rfl
        rw [e]
        obtain ⟨ne, ok⟩ := A.m _ (List.getElem_mem hm)
        have L := is_let ne ok
        have hl : ("letter" : Str) ∈ ws := by
          rcases h3 with z | z
          · rw [z] at hm; simp at hm
          · exact z
        refine mk (by rw [L.w]; exact hl) ?_ (by
          rw [L.w, L.r]
          have hp : 1 ≤ ms[i - qs.length].2.length := List.length_pos_iff.mpr ne
          refine form_letter ok ?_ ?_
          · rw [List.length_cons, flat2_len]; omega
          · rw [List.length_cons, flat2_len]; omega)
        rw [L.w, if_neg (by omega)]
        by_cases z : i ≤ qs.length
        · rw [if_pos z, beh2]; simp
        · rw [if_neg z, beh3]; simp
  · have e : (allLs n qs ms).length = (allLs n qs ms).length - 1 + 1 := by omega
    rw [e, ge _ (by omega), if_neg (by omega)]
    split <;> simp
theorem closed_append (a b : List Str) : closedS a ++ closedS b = closedS (a ++ b) := by
  refine TL.ext_tl ?_
  rw [TL.tl_append, tl_closed, tl_closed, tl_closed, List.map_append, List.flatten_append]
/-- no line feed in a line -/
theorem AllOk.free {n : Int} {qs : List (Int × Int × Int × Int)} {ms : List (Int × List (Int × Int))} (A : AllOk n qs ms) : ∀ l ∈ allLs n qs ms, 10 ∉ TL.tl l := by
  have key : ∀ {w : Str} {ns : List Int}, 10 ∉ TL.tl w → (∀ x ∈ ns, NumR x) → 10 ∉ TL.tl (Txt.join " " (w :: ns.map sn)) := by
    intro w ns hw hn hc
    rw [TL.join_eq, TL.tl_join, tl_sp] at hc
    have jm : ∀ L : List (List Nat), (∀ p ∈ L, 10 ∉ p) → 10 ∉ TL.joinL [32] L := by
      intro L
      induction L with
      | nil => intro _; simp [TL.joinL]
      | cons a r ih =>
        intro h
        cases r with
        | nil => exact h a (List.mem_cons_self ..)
        | cons b r =>
          rw [joinL_cons2 [32] a (by simp)]
          intro hc
          rcases List.mem_append.mp hc with hc | hc
          · exact h a (List.mem_cons_self ..) hc
          · rcases List.mem_append.mp hc with hc | hc
            · simp at hc
            · exact ih (fun p hp => h p (List.mem_cons_of_mem _ hp)) hc
    refine jm _ (fun p hp => ?_) hc
    rw [List.map_cons] at hp
    rcases List.mem_cons.mp hp with rfl | hp
    · exact hw
    · obtain ⟨x, hx, rfl⟩ := List.mem_map.mp hp
      obtain ⟨y, hy, rfl⟩ := List.mem_map.mp hx
      exact sn_free (hn y hy).1 (by omega)
  intro l hl
  unfold allLs at hl
  rcases List.mem_cons.mp hl with rfl | hl
  · rw [fWeb_join]
    exact key (ns := [n]) (by decide +kernel) (by intro x hx; rw [List.mem_singleton.mp hx]; exact A.n)
  · rcases List.mem_append.mp hl with hl | hl
    · obtain ⟨q, hq, rfl⟩ := List.mem_map.mp hl
      unfold fQ
      rw [fRoad_join]
      exact key (ns := roadN q) (by decide +kernel) (A.q q hq)
    · obtain ⟨m, hm, rfl⟩ := List.mem_map.mp hl
      rw [fLetter_join _ (A.m m hm).1, words2_flat]
      exact key (ns := m.1 :: flat2 m.2) (by decide +kernel) (A.m m hm).2
theorem AllOk.split {n : Int} {qs : List (Int × Int × Int × Int)} {ms : List (Int × List (Int × Int))} (A : AllOk n qs ms) : Txt.split (closedS (allLs n qs ms)) "\n" = allLs n qs ms ++ [("" : Str)] := split_closed _ A.free
end Hc


set_option Elab.async false
set_option linter.all false
set_option maxRecDepth 100000
set_option maxHeartbeats 2000000
set_option autoImplicit false
namespace L2
open PySem PySem.Spec PyProof.Rows
/-- a loop over enumerate(list, start=1) -/
theorem for_enumS {K : PySem.W.Frag} {a : Addr} {xs : List V} {g : TG} {tb : TS} {D : Ends} {σ : St} {H : Hp} (Pv : Nat → St → Hp → Prop) (h0 : Pv 0 σ H) (hl : ∀ i σ H, Pv i σ H → SqL K H a xs)
    (hs : ∀ i x T σ H, xs[i]? = some x → H T = none → Pv i σ H → g (.ref T) σ (upd H T (.tup [.int (1 + (i : Nat)), x])) fun σ2 H2 => tb { D with nx := Pv (i + 1), ct := Pv (i + 1), bk := D.nx } σ2 H2) (hd : ∀ σ H, Pv xs.length σ H → D.nx σ H) :
    ∃ W : Nat → Nat → St → Hp → Prop, (∃ m, W 0 m σ H) ∧ ∀ i m σ H, W i m σ H →
      ((IteS K a).stop i H ∧ D.nx σ H) ∨ ((IteS K a).go i H ∧ ∃ N : St → Hp → Prop, (∀ σ' H', N σ' H' → ∃ m', m' < m ∧ W (i + 1) m' σ' H') ∧ ∀ x H', (IteS K a).yld i H x H' → g x σ H' fun σ2 H2 => tb { D with nx := N, ct := N, bk := D.nx } σ2 H2) := by
  refine ⟨fun i m σ H => m = xs.length - i ∧ i ≤ xs.length ∧ Pv i σ H, ⟨xs.length, by simp, Nat.zero_le _, h0⟩, ?_⟩
  rintro i m σ H ⟨rfl, hi, p⟩
  have q := hl i σ H p
  by_cases hlt : i < xs.length
  · refine .inr ⟨⟨xs, xs[i], q, List.getElem?_eq_getElem hlt⟩, Pv (i + 1), fun σ' H' p' => ⟨xs.length - (i + 1), by omega, rfl, hlt, p'⟩, fun v H' y => ?_⟩
    obtain ⟨T, x, rfl, hT, rfl, f⟩ := y
    exact hs i x T σ H (f xs q) hT p
  · have e : i = xs.length := by omega
    subst e
    exact .inl ⟨⟨xs, q, rfl⟩, hd σ H p⟩
end L2


set_option Elab.async false
set_option linter.all false
set_option pp.maxSteps 900
set_option maxRecDepth 100000
set_option maxHeartbeats 4000000
set_option autoImplicit false
namespace Hc
open PySem L2
def linesOf (x : Str) : List Str := Txt.split x "\n"
def bodyOf (x : Str) : List Str := (linesOf x).dropLast
def okAt (ws : List Str) (x : Str) (i : Nat) : Bool := okLine ws (lastW (bodyOf x) i) ((bodyOf x).getD i "")
def okAll (ws : List Str) (x : Str) : Prop := ∀ i < (bodyOf x).length, okAt ws x i = true
def endOk (x : Str) : Prop := (linesOf x).getD ((linesOf x).length - 1) "" = "" ∧ lastW (bodyOf x) (bodyOf x).length ∈ ([("road" : Str), "letter"] : List Str)
inductive BadAt (ws : List Str) (x : Str) : Int → Prop
  | line {i : Nat} : i < (bodyOf x).length → (∀ j < i, okAt ws x j = true) → okAt ws x i = false → BadAt ws x (1 + (i : Nat))
  | fin : okAll ws x → ¬ endOk x → BadAt ws x ((linesOf x).length : Nat)
theorem lines_ne (x : Str) : linesOf x ≠ [] := split_ne sep_nl
theorem lines_len (x : Str) : (linesOf x).length ≤ x.length + 2 := PyProof.Rows.split_le x "\n"
theorem line_len {x l : Str} (h : l ∈ linesOf x) : l.length ≤ x.length := split_word (y := "\n") sep_nl h
theorem body_get {x : Str} {i : Nat} (h : i < (bodyOf x).length) : (bodyOf x)[i]? = some ((bodyOf x).getD i "") := by
  rw [List.getD_eq_getElem?_getD, List.getElem?_eq_getElem h]; rfl
theorem body_mem {x : Str} {i : Nat} (h : i < (bodyOf x).length) : (bodyOf x).getD i "" ∈ linesOf x := List.dropLast_subset _ (List.mem_of_getElem? (body_get h))
def RowAt (H : Hp) (v : V) (r : Str × List Int) : Prop := ∃ q l, v = .ref q ∧ H q = some (.tup [.str r.1, .ref l]) ∧ H l = some (.lst (r.2.map V.int))
def RowsAt (H : Hp) (p : Addr) (rs : List (Str × List Int)) : Prop := ∃ vs : List V, H p = some (.lst vs) ∧ vs.length = rs.length ∧ ∀ (i : Nat) (v : V) (r : Str × List Int), vs[i]? = some v → rs[i]? = some r → RowAt H v r
theorem RowAt.same {H H' : Hp} {v : V} {r : Str × List Int} (x : RowAt H v r) (s : Same H H') : RowAt H' v r := by
  obtain ⟨q, l, e, a, b⟩ := x
  exact ⟨q, l, e, s _ _ a, s _ _ b⟩
theorem cut_body {x : Str} : cutV ((linesOf x).map V.str) none (some (-1)) = (bodyOf x).map V.str := by
  have h := lines_ne x
  have l : ((linesOf x).map V.str).length = (linesOf x).length := List.length_map _
  have s1 : HT.sIx (linesOf x).length 0 none = 0 := rfl
  have s2 : HT.sIx (linesOf x).length (linesOf x).length (some (-1)) = (linesOf x).length - 1 := by
    show (if (-1 : Int) < 0 then ((-1 : Int) + ((linesOf x).length : Int)).toNat else min (-1 : Int).toNat (linesOf x).length) = _
    rw [if_pos (by decide)]; omega
  unfold cutV
  rw [l, s1, s2, List.drop_zero, Nat.sub_zero]
  unfold bodyOf
  rw [List.dropLast_eq_take, List.map_take]
theorem body_length (x : Str) : (bodyOf x).length = (linesOf x).length - 1 := by unfold bodyOf; exact List.length_dropLast
theorem lines_last (x : Str) : linesOf x = bodyOf x ++ [(linesOf x).getD ((linesOf x).length - 1) ""] := by
  have h := lines_ne x
  have e := List.dropLast_concat_getLast h
  rw [List.getD_eq_getElem?_getD, ← List.getLast?_eq_getElem?, List.getLast?_eq_getLast h]
  exact e.symm
theorem RowsAt.same {H H' : Hp} {p : Addr} {rs : List (Str × List Int)} (x : RowsAt H p rs) (s : Same H H') : RowsAt H' p rs := by
  obtain ⟨vs, a, b, c⟩ := x
  exact ⟨vs, s _ _ a, b, fun i v r e1 e2 => (c i v r e1 e2).same s⟩
/-- the table of what may stand behind what -/
def BehF (K : PySem.W.Frag) (mg : Str → Option Value) (w : World) : Prop := ∃ a, mg "BEHIND" = some (.ref a) ∧ ∀ k ∈ KEYS, ∃ t, KDct K w a k (.ref t) ∧ ∀ H, SqT K H t ((behindS k).map V.str)
section
variable {P : Program} {w : World} {K : PySem.W.Frag} {mg : Str → Option Value} {base : Heap}
theorem ok_BadText___init (T : Tx K mg) : FnOk P w K mg base (L2.CX P w) 1 T.x_BadText.f T.x_BadText.fd ["self", "line"] (spInitE T.x_BadText.C "line") := by
  refine T.x_BadText.F.okX sc_BadText___init (fun vs H Q E h => ?_) (fun cdv A outer s H vs Q E hr h => ?_)
  · obtain ⟨a, y, rfl, _⟩ := h
    rfl
  · obtain ⟨a, y, rfl, ha, k⟩ := h
    refine ⟨_, pss_one (ps_ost (pv 0) (pv 1)), ?_⟩
    exact ⟨_, rfl, _, rfl, a, T.x_BadText.C, rfl, T.x_BadText.T, T.x_BadText.no _ (by simp), .inl ⟨ha, fun dx n ne => k dx n ne⟩⟩
def spRowsOf (K : PySem.W.Frag) (CB : Addr) : Sp := fun vs H Q E =>
  (∃ (x : Str) (q : Addr) (ws : List Str), vs = [.str x, .ref q] ∧ H q = some (.tup (ws.map V.str)) ∧ x.length ≤ 9000 ∧
    (∀ H' p, Same H H' → okAll ws x → endOk x → RowsAt H' p ((bodyOf x).map rowOf) → Q (.ref p) H') ∧
    (∀ k, BadAt ws x k → ∀ H' d, Same H H' → H' d = some (.xd [("line", .int k)]) → E (.ref CB) (some d) H')) ∨
  (∃ (v : V) (t : Value) (q : Addr), vs = [v, .ref q] ∧ TyX K H v t ∧ PySem.W.kitOne K t (.type "str") = some false ∧ ∀ H' d, Same H H' → H' d = some (.xd [("line", .int 0)]) → E (.ref CB) (some d) H')
theorem ok_rows_of (T : Tx K mg) (hB : BehF K mg w) : FnOk P w K mg base (L2.CX P w) 4 T.rows_of.f T.rows_of.fd ["text", "words"] (spRowsOf K T.x_BadText.C) := by
  refine T.rows_of.F.okX sc_rows_of (fun vs H Q E h => ?_) (fun cdv A outer s H vs Q E hr h => ?_)
  · rcases h with ⟨x, q, ws, rfl, _⟩ | ⟨v, t, q, rfl, _⟩ <;> rfl
  · have key : ∀ (k : Int) (H1 : Hp), (∀ H' d, Same H1 H' → H' d = some (.xd [("line", .int k)]) → E (.ref T.x_BadText.C) (some d) H') → ∀ a, H1 a = none →
        spInitE T.x_BadText.C "line" [.ref a, .int k] (upd H1 a (exo a T.x_BadText.C none)) (fun v H2 => v = .non ∧ ∃ (d : Addr) (fs : List (Str × V)), H2 a = some (exo a T.x_BadText.C (some d)) ∧ H2 d = some (exd d fs) ∧ H1 d = none ∧
          E (.ref T.x_BadText.C) (some d) (upd (del H2 a) d (.xd fs))) (fun _ _ _ => False) := by
      intro k H1 ke a hA
      refine ⟨a, _, rfl, upd_same, fun d hd nd => ⟨rfl, d, [("line", .int k)], upd_same, ?_, ?_, ?_⟩⟩
      · rw [upd_ne nd, upd_same]
      · rw [upd_ne nd] at hd; exact hd
      · exact ke _ d (err_same (Same.refl _) hA hd nd) upd_same
    rcases h with ⟨x, q, ws, rfl, hq, hx, kq, ke⟩ | ⟨v, t, q, rfl, ty, kt, ke⟩
    · refine ⟨_, (pss_cons (ps_if (pt_not (pt_val (pe_callB call_isi (by rfl) T.n_isinstance (by decide +kernel) (pa_cons (pv 0) (pa_cons (pe_bltn (v := .ty "str") (by rfl) T.n_str (by decide +kernel) rfl) pa_nil)))))
      (pss_one (ps_raise rfl (takes_of rfl rfl rfl rfl) (pmk_oex T.x_BadText.T T.x_BadText.iC T.x_BadText.tI (ok_BadText___init T) (hr.mono (by decide)) T.x_BadText.b .nil passL rfl T.x_BadText.g (pa_cons pe_int pa_nil))))
      pss_nil)
      (pss_cons (ps_set (i := 2) sc_rows_of.nd rfl (Or.inl rfl) (pe_split (pv 0) pe_str))
      (pss_cons (ps_set (i := 3) sc_rows_of.nd rfl (Or.inl rfl) (pe_lst pa_nil))
      (pss_cons (ps_set (i := 4) sc_rows_of.nd rfl (Or.inl rfl) pe_str)
      (pss_cons (ps_for (passes_of rfl) rfl (pi_enumS (by rfl) T.n_enumerate (pa_cons (pe_slice sl_list (pv 2) po_none (po_some (pe_un un_neg pe_int))) pa_nil) (pk_cons pe_int pk_nil)) (pg_tup (by rfl) (pgs_cons (pg_name (i := 5) sc_rows_of.nd rfl (Or.inl rfl)) (pgs_cons (pg_name (i := 6) sc_rows_of.nd rfl (Or.inl rfl)) pgs_nil)))
      (pss_cons (ps_asg (pe_split (pv 6) pe_str) (pg_star (by rfl) (pgs_cons (pg_name (i := 7) sc_rows_of.nd rfl (Or.inl rfl)) (pgs_cons (pg_name (i := 8) sc_rows_of.nd rfl (Or.inl rfl)) pgs_nil))))
      (pss_cons (ps_if (PW.pt (pw_or (pt_cmpR op_notIn_seq (pv 7) (pv 1) (by rfl)) (pw_or (pt_cmpR op_notIn_seq (pv 7) (pe_ix ix_kdict (pe_glob (v := .ref hB.choose) rfl hB.choose_spec.1 rfl) (pv 4) (fun _ _ => rfl)) (by rfl)) (pw_or1 (pt_not (pt_val (pe_call (ok_is_form T) (hr.mono (by decide)) rfl T.is_form.g T.is_form.F.kp T.is_form.b .nil pass0 (pa_cons (pv 7) (pa_cons (pv 8) pa_nil)))))))))
      (pss_one (ps_raise rfl (takes_of rfl rfl rfl rfl) (pmk_oex T.x_BadText.T T.x_BadText.iC T.x_BadText.tI (ok_BadText___init T) (hr.mono (by decide)) T.x_BadText.b .nil passL rfl T.x_BadText.g (pa_cons (pv 5) pa_nil))))
      pss_nil)
      (pss_cons (ps_expr (pe_bm PySem.F.plainAttrs_list PySem.F.slot_list_append PySem.F.type_list_append mt_append (pv 3) (pa_cons (pe_tup (pa_cons (pv 7) (pa_cons (pe_lc (own := [("figures", 9)]) (g := (gName 9)) (tt := tYes) rfl sc_rows_of.nd (pi_list (pv 8)) (blkOk_by (own := [("figures", 9)]) (N := ["text", "words", "lines", "rows", "last", "number", "line", "word", "rest", "figures"]) (sc := defScope s_rows_of) (by decide +kernel)) (fun _ _ _ _ _ => (pg_name (i := 9) sc_rows_of.nd rfl (Or.inl rfl))) (fun _ _ _ _ _ => pts_nil) (fun _ _ _ _ _ => (by exact (pe_callTy call_int_str (by rfl) T.n_int (by decide +kernel) (pa_cons (pv 9) pa_nil))))) pa_nil))) pa_nil)))
      (pss_one (ps_set (i := 4) sc_rows_of.nd rfl (Or.inl rfl) (pv 7)))))))
      (pss_cons (ps_if (PW.pt (pw_or (pt_cmpR op_ne (pe_ix ix_list (pv 2) (pe_un un_neg pe_int) (fun _ _ => rfl)) pe_str (nomark _)) (pw_or1 (pt_cmpR op_in_seq (pv 4) (pe_tup (pa_cons pe_str (pa_cons pe_str pa_nil))) (by rfl)))))
      (pss_one (ps_raise rfl (takes_of rfl rfl rfl rfl) (pmk_oex T.x_BadText.T T.x_BadText.iC T.x_BadText.tI (ok_BadText___init T) (hr.mono (by decide)) T.x_BadText.b .nil passL rfl T.x_BadText.g (pa_cons (pe_callB call_len_seq (by rfl) T.n_len (by decide +kernel) (pa_cons (pv 2) pa_nil)) pa_nil))))
      pss_nil)
      (pss_one (ps_ret (pv 3))))))))), ?_⟩
      refine ⟨_, rfl, _, _, _, _, _, rfl, .ty "str", .base (.str x), kit_ty (by decide +kernel : kitB "str" "str" = some true), _, rfl, iteF ?_⟩
      refine ⟨_, rfl, ⟨_, rfl⟩, x, _, rfl, rfl, by decide +kernel, by rw [sizeLine_eq]; omega, fun A hA => ?_⟩
      refine ⟨by show 0 ≤ sizeLine; decide, fun L hL => ?_⟩
      have eA : (upd (upd H A (.lst ((linesOf x).map V.str))) L (.lst [])) A = some (.lst ((linesOf x).map V.str)) := (upd_ne (fun z => by subst z; rw [upd_same] at hL; cases hL)).trans upd_same
      have nA := hA
      have sA : Same H (upd (upd H A (.lst ((linesOf x).map V.str))) L (.lst [])) := (same_upd hA).trans (same_upd hL)
      have hHL : H L = none := by
        cases z : H L with
        | none => rfl
        | some o => rw [same_upd hA _ _ z] at hL; cases hL
      have lx := lines_len x
      have bl := body_length x
      refine ⟨_, rfl, ?_⟩
      delta tNoPart tPart tUn
      dsimp only
      refine ⟨1, rfl, -1, rfl, A, _, rfl, SqL.of eA, fun B hB2 => ?_⟩
      have hB2 : (upd (upd H A (.lst ((linesOf x).map V.str))) L (.lst [])) B = none := hB2
      have eB : (upd (upd (upd H A (.lst ((linesOf x).map V.str))) L (.lst [])) B (.lst (cutV ((linesOf x).map V.str) none (some (-1))))) B = some (.lst ((bodyOf x).map V.str)) := by rw [upd_same, cut_body]
      have nAB : A ≠ B := fun z => by subst z; rw [eA] at hB2; cases hB2
      have nLB : L ≠ B := fun z => by subst z; rw [upd_same] at hB2; cases hB2
      have eA0 : (upd (upd (upd H A (.lst ((linesOf x).map V.str))) L (.lst [])) B (.lst (cutV ((linesOf x).map V.str) none (some (-1))))) A = some (.lst ((linesOf x).map V.str)) := (upd_ne nAB).trans eA
      have eL0 : (upd (upd (upd H A (.lst ((linesOf x).map V.str))) L (.lst [])) B (.lst (cutV ((linesOf x).map V.str) none (some (-1))))) L = some (.lst []) := (upd_ne nLB).trans upd_same
      have nAL : A ≠ L := fun z => by subst z; rw [upd_same] at eA; injection eA with e; injection e with e; exact lines_ne x (List.map_eq_nil_iff.mp e.symm)
      have s0 : Same H (upd (upd (upd H A (.lst ((linesOf x).map V.str))) L (.lst [])) B (.lst (cutV ((linesOf x).map V.str) none (some (-1))))) := sA.trans (same_upd hB2)
      change tNil _ (upd (upd (upd H A (.lst ((linesOf x).map V.str))) L (.lst [])) B (.lst (cutV ((linesOf x).map V.str) none (some (-1))))) _
      generalize (upd (upd (upd H A (.lst ((linesOf x).map V.str))) L (.lst [])) B (.lst (cutV ((linesOf x).map V.str) none (some (-1))))) = H0 at eB eA0 eL0 s0 ⊢
      clear eA sA hB2 hL
      refine ⟨B, (bodyOf x).map V.str, rfl, rfl, SqL.of eB, ?_⟩
      refine for_enumS (D := { nx := _, rt := _ }) (K := K) (a := B) (xs := (bodyOf x).map V.str) (fun i σ' H' => ∃ (o5 o6 o7 o8 o9 : Option V), σ' = [some (.str x), some (.ref q), some (.ref A), some (.ref L), some (.str (lastW (bodyOf x) i)), o5, o6, o7, o8, o9] ∧ But L H0 H' ∧
        (∃ vs : List V, H' L = some (.lst vs) ∧ vs.length = i ∧ ∀ (j : Nat) (v : V), vs[j]? = some v → ∃ q l, v = .ref q ∧ H' q = some (.tup [.str (rowOf ((bodyOf x).getD j "")).1, .ref l]) ∧ H' l = some (.lst ((rowOf ((bodyOf x).getD j "")).2.map V.int)) ∧ l ≠ L ∧ q ≠ L) ∧ ∀ j < i, okAt ws x j = true)
        ⟨none, none, none, none, none, rfl, But.refl _ _, ⟨[], eL0, rfl, fun j v e => by simp at e⟩, fun j hj => absurd hj (Nat.not_lt_zero j)⟩ (fun i σ' H' ⟨_, _, _, _, _, _, b, _⟩ => SqL.of (b _ _ eB (Ne.symm nLB))) ?_ ?_
      · rintro i y TT σ' H2 hy hT ⟨o5, o6, o7, o8, o9, rfl, bt, ⟨vs, eL, lv, hv⟩, hok⟩
        obtain ⟨line, el, rfl⟩ := map_get hy
        have hi : i < (bodyOf x).length := (List.getElem?_eq_some_iff.mp el).1
        have eg : (bodyOf x).getD i "" = line := by rw [List.getD_eq_getElem?_getD, el]; rfl
        have ll : line.length ≤ x.length := line_len (by rw [← eg]; exact body_mem hi)
        have hw : ∀ w ∈ restOf line, w.length ≤ 9000 := fun w h => Nat.le_trans (rest_word h) (by omega)
        have hn : (restOf line).length ≤ 9001 := by
          have h1 := PyProof.Rows.split_le line " "
          rw [split_wr] at h1
          simp only [List.length_cons] at h1
          omega
        refine ⟨TT, _, rfl, SqT.of upd_same, rfl, _, _, rfl, _, _, rfl, rfl, _, rfl, ⟨_, rfl⟩, line, _, rfl, rfl, by decide +kernel, by rw [sizeLine_eq]; omega, fun S hS => ⟨S, .str (wordOf line), (restOf line).map V.str, rfl, SqL.of (by rw [upd_same, split_wr]; rfl), by rw [List.length_map]; omega, fun D hD => ?_⟩⟩
        have s23 : Same H2 (upd (upd (upd H2 TT (.tup [.int (1 + (i : Nat)), .str line])) S (.lst ((Txt.split line " ").map V.str))) D (.lst ((restOf line).map V.str))) := ((same_upd hT).trans (same_upd hS)).trans (same_upd hD)
        have eD : (upd (upd (upd H2 TT (.tup [.int (1 + (i : Nat)), .str line])) S (.lst ((Txt.split line " ").map V.str))) D (.lst ((restOf line).map V.str))) D = some (.lst ((restOf line).map V.str)) := upd_same
        generalize (upd (upd (upd H2 TT (.tup [.int (1 + (i : Nat)), .str line])) S (.lst ((Txt.split line " ").map V.str))) D (.lst ((restOf line).map V.str))) = H3 at s23 eD ⊢
        clear hS hD hT
        have sH : Same H H3 := fun b o e => s23 b o (bt b o (s0 b o e) (ne_of_none e hHL))
        have raise : okAt ws x i = false → ∀ H4, Same H3 H4 → ∀ a, H4 a = none → _ := fun hb H4 s4 => key (1 + (i : Nat)) H4 (fun H' d s e => ke _ (.line hi hok hb) H' d ((sH.trans s4).trans s) e)
        have eok : okAt ws x i = okLine ws (lastW (bodyOf x) i) line := by unfold okAt; rw [eg]
        have hk := last_key (ws := ws) (ls := bodyOf x) (i := i) hok
        obtain ⟨tb, kd, sq⟩ := hB.choose_spec.2 _ hk
        have allS : ∀ l : List Str, (l.map V.str).all flatV = true := fun l => by rw [List.all_eq_true]; intro v hv; obtain ⟨w, _, rfl⟩ := List.mem_map.mp hv; rfl
        refine ⟨_, _, rfl, _, _, rfl, rfl, _, rfl, _, rfl, q, _, rfl, .inr (SqT.of (sH _ _ hq)), rfl, allS _, _, rfl, ?_⟩
        cases h1 : inV (.str (wordOf line)) (ws.map V.str) with
        | false =>
          refine iteT (iteT ⟨_, rfl, by show 1 ≤ 1000; decide, fun a hA => raise ?_ H3 (Same.refl _) a hA⟩)
          rw [eok]; unfold okLine; rw [h1]; rfl
        | true =>
          refine iteF ⟨_, rfl, _, rfl, _, _, _, rfl, rfl, kd, tb, _, rfl, .inr (sq _), rfl, allS _, _, rfl, ?_⟩
          cases h2 : inV (.str (wordOf line)) ((behindS (lastW (bodyOf x) i)).map V.str) with
          | false =>
            refine iteT (iteT ⟨_, rfl, by show 1 ≤ 1000; decide, fun a hA => raise ?_ H3 (Same.refl _) a hA⟩)
            rw [eok]; unfold okLine; rw [h1, h2]; rfl
          | true =>
            refine iteF ⟨_, rfl, _, rfl, wordOf line, D, restOf line, rfl, eD, (fun y hy => by have := hw y hy; omega), by omega, fun H4 s4 => ⟨_, rfl, ?_⟩⟩
            cases h3 : isFormS (wordOf line) (restOf line) with
            | false =>
              refine iteT ⟨_, rfl, by show 1 ≤ 1000; decide, fun a hA => raise ?_ H4 s4 a hA⟩
              rw [eok]; unfold okLine; rw [h1, h2, h3]; rfl
            | true =>
              refine iteF ?_
              have hgood : okAt ws x i = true := by rw [eok]; unfold okLine; rw [h1, h2, h3]; rfl
              have hnum := form_nums h3
              have eD4 := s4 _ _ eD
              have eL4 := s4 _ _ (s23 _ _ eL)
              refine ⟨_, rfl, .inl ⟨rfl, _, SqL.of eL4⟩, _, rfl, _, rfl, D, rfl, ⟨_, SqL.of eD4⟩, fun N hN => ?_⟩
              refine lc_list (K := K) (a := D) (xs := (restOf line).map V.str) (fun j H' => Same H4 H' ∧ H' N = some (.lst (((restOf line).take j).map fun f => V.int (numOf f)))) ⟨same_upd hN, upd_same⟩ (fun j H' _ ⟨z, _⟩ => SqL.of (z _ _ eD4)) ?_ ?_
              · rintro j v H5 hv ⟨s5, eN⟩
                obtain ⟨f, ef, rfl⟩ := map_get hv
                have hm := List.mem_of_getElem? ef
                have hl9 := (num_len (hnum f hm)).2
                have hj : j < (restOf line).length := (List.getElem?_eq_some_iff.mp ef).1
                refine ⟨rfl, tyes ⟨_, rfl, f, _, rfl, num_int (hnum f hm), by omega, _, eN, ?_, same_putX s5 hN, ?_⟩⟩
                · rw [List.length_map, List.length_take]; exact line_lt (by omega)
                · rw [upd_same, take_more ef, List.map_append]; rfl
              · rintro H5 ⟨s5, eN⟩
                rw [List.length_map, List.take_length] at eN
                have eL5 := s5 _ _ eL4
                have el1 : lastW (bodyOf x) (i + 1) = wordOf line := by show wordOf ((bodyOf x).getD i "") = _; rw [eg]
                refine ⟨by show 2 ≤ sizeLine; decide, fun TP hTP => ⟨L, _, _, rfl, rfl, (upd_ne (ne_of_none eL5 hTP)).trans eL5, ?_, _, rfl, some (.int (1 + (i : Nat))), some (.str line), some (.str (wordOf line)), some (.ref D), o9, by rw [el1]; rfl, ?_, ⟨_, upd_same, ?_, ?_⟩, ?_⟩⟩
                · exact line_lt (by omega)
                · exact fun b o e n => (upd_ne n).trans (same_upd hTP _ _ (s5 _ _ (s4 _ _ (s23 _ _ (bt b o e n)))))
                · rw [List.length_append, lv]; rfl
                · intro j v ev
                  have nLT : L ≠ TP := ne_of_none eL5 hTP
                  have nNL : N ≠ L := fun z => by
                    have : H4 L = none := z ▸ hN
                    rw [this] at eL4; cases eL4
                  by_cases hj : j < i
                  · rw [List.getElem?_append_left (by omega)] at ev
                    obtain ⟨q', l', e1, e2, e3, e4, e5⟩ := hv j v ev
                    exact ⟨q', l', e1, (upd_ne e5).trans (same_upd hTP _ _ (s5 _ _ (s4 _ _ (s23 _ _ e2)))), (upd_ne e4).trans (same_upd hTP _ _ (s5 _ _ (s4 _ _ (s23 _ _ e3)))), e4, e5⟩
                  · rw [List.getElem?_append_right (by omega)] at ev
                    have hj0 : j - vs.length = 0 := by
                      cases q : j - vs.length with
                      | zero => rfl
                      | succ n => rw [q] at ev; simp at ev
                    rw [hj0] at ev
                    obtain rfl : v = .ref TP := by simpa using ev.symm
                    have ej : j = i := by omega
                    subst ej
                    rw [eg]
                    exact ⟨TP, N, rfl, (upd_ne (Ne.symm nLT)).trans upd_same, (upd_ne nNL).trans (same_upd hTP _ _ (by rw [eN]; show _ = some (HO.lst (((restOf line).map numOf).map V.int)); rw [List.map_map]; rfl)), nNL, Ne.symm nLT⟩
                · intro j hj
                  by_cases z : j = i
                  · rw [z]; exact hgood
                  · exact hok j (by omega)
      · rintro σ' H2 ⟨o5, o6, o7, o8, o9, rfl, bt, ⟨vs, eL, lv, hv⟩, hok⟩
        rw [List.length_map] at lv hok
        rw [List.length_map]
        have sH : Same H H2 := fun b o e => bt b o (s0 b o e) (ne_of_none e hHL)
        have eA2 := bt _ _ eA0 nAL
        have hll : 0 < (linesOf x).length := List.length_pos_iff.mpr (lines_ne x)
        have hk := last_key (ws := ws) (ls := bodyOf x) (i := (bodyOf x).length) hok
        have raise : ¬ endOk x → ∀ a, H2 a = none → _ := fun hb => key ((linesOf x).length : Nat) H2 (fun H' d s e => ke _ (.fin hok hb) H' d (sH.trans s) e)
        have el := lines_last x
        have ea : atI ((linesOf x).map V.str) (-1) = some (.str ((linesOf x).getD ((linesOf x).length - 1) "")) := by
          rw [el, List.map_append, List.map_cons, List.map_nil, ← el]
          exact atI_last _ _
        refine ⟨_, rfl, 1, rfl, A, _, -1, _, rfl, rfl, SqL.of eA2, ea, rfl, _, rfl, ?_⟩
        cases hl : decide (V.str ((linesOf x).getD ((linesOf x).length - 1) "") = V.str "") with
        | false =>
          refine iteT (iteT ⟨_, rfl, A, _, rfl, .inl (SqL.of eA2), by show 1 ≤ 1000; decide, fun a hA => ?_⟩)
          have hne : ¬ endOk x := fun z => by
            rw [z.1, decide_eq_true rfl] at hl
            cases hl
          rw [List.length_map]
          exact raise hne a hA
        | true =>
          have hz : (linesOf x).getD ((linesOf x).length - 1) "" = "" := by
            have := of_decide_eq_true hl
            injection this
          refine iteF ⟨_, rfl, by show 2 ≤ sizeLine; decide, fun TP hTP => ⟨TP, _, rfl, .inr (SqT.of upd_same), rfl, rfl, _, rfl, ?_⟩⟩
          have sT := same_upd (o := .tup [V.str "", .str "web"]) hTP
          cases h4 : inV (.str (lastW (bodyOf x) (bodyOf x).length)) [.str "", .str "web"] with
          | true =>
            refine iteT ⟨_, rfl, A, _, rfl, .inl (SqL.of (sT _ _ eA2)), by show 1 ≤ 1000; decide, fun a hA => ?_⟩
            have hne : ¬ endOk x := fun z => by
              have h5 := in_str (ws := ["", "web"]).mp h4
              have h6 := z.2
              revert h5 h6
              generalize lastW (bodyOf x) (bodyOf x).length = u
              intro h5 h6
              simp only [List.mem_cons, List.not_mem_nil, or_false] at h5 h6
              rcases h5 with rfl | rfl <;> rcases h6 with h6 | h6 <;> exact absurd h6 (by decide +kernel)
            rw [List.length_map]
            exact key ((linesOf x).length : Nat) _ (fun H' d s e => ke _ (.fin hok hne) H' d ((sH.trans sT).trans s) e) a hA
          | false =>
            refine iteF ⟨_, rfl, ?_⟩
            have hend : endOk x := ⟨hz, by
              have h5 : ¬ lastW (bodyOf x) (bodyOf x).length ∈ (["", "web"] : List Str) := fun z => by
                have : inV (.str (lastW (bodyOf x) (bodyOf x).length)) [.str "", .str "web"] = true := in_str.mpr z
                rw [h4] at this
                cases this
              have h6 := hk
              revert h5 h6
              generalize lastW (bodyOf x) (bodyOf x).length = u
              intro h5 h6
              unfold KEYS at h6
              simp only [List.mem_cons, List.not_mem_nil, or_false] at h5 h6 ⊢
              rcases h6 with h6 | h6 | h6 | h6
              · exact absurd (.inl h6) h5
              · exact absurd (.inr h6) h5
              · exact .inl h6
              · exact .inr h6⟩
            refine kq _ L (sH.trans sT) hok hend ⟨vs, sT _ _ eL, by rw [List.length_map, lv], fun i v r e1 e2 => ?_⟩
            obtain ⟨q', l', a1, a2, a3, _, _⟩ := hv i v e1
            obtain ⟨ln, eln, rfl⟩ := map_get e2
            have eg : (bodyOf x).getD i "" = ln := by rw [List.getD_eq_getElem?_getD, eln]; rfl
            rw [eg] at a2 a3
            exact ⟨q', l', a1, sT _ _ a2, sT _ _ a3⟩
    · refine ⟨_, (pss_cons (ps_if (pt_not (pt_val (pe_callB call_isi (by rfl) T.n_isinstance (by decide +kernel) (pa_cons (pv 0) (pa_cons (pe_bltn (v := .ty "str") (by rfl) T.n_str (by decide +kernel) rfl) pa_nil)))))
      (pss_one (ps_raise rfl (takes_of rfl rfl rfl rfl) (pmk_oex T.x_BadText.T T.x_BadText.iC T.x_BadText.tI (ok_BadText___init T) (hr.mono (by decide)) T.x_BadText.b .nil passL rfl T.x_BadText.g (pa_cons pe_int pa_nil))))
      pss_nil)
      (pss_cons (ps_set (i := 2) sc_rows_of.nd rfl (Or.inl rfl) (pe_split (pv 0) pe_str))
      (pss_cons (ps_set (i := 3) sc_rows_of.nd rfl (Or.inl rfl) (pe_lst pa_nil))
      (pss_cons (ps_set (i := 4) sc_rows_of.nd rfl (Or.inl rfl) pe_str)
      (pss_cons (ps_for (passes_of rfl) rfl (pi_enumS (by rfl) T.n_enumerate (pa_cons (pe_slice sl_list (pv 2) po_none (po_some (pe_un un_neg pe_int))) pa_nil) (pk_cons pe_int pk_nil)) (pg_tup (by rfl) (pgs_cons (pg_name (i := 5) sc_rows_of.nd rfl (Or.inl rfl)) (pgs_cons (pg_name (i := 6) sc_rows_of.nd rfl (Or.inl rfl)) pgs_nil)))
      (pss_cons (ps_asg (pe_split (pv 6) pe_str) (pg_star (by rfl) (pgs_cons (pg_name (i := 7) sc_rows_of.nd rfl (Or.inl rfl)) (pgs_cons (pg_name (i := 8) sc_rows_of.nd rfl (Or.inl rfl)) pgs_nil))))
      (pss_cons (ps_if (PW.pt (pw_or (pt_cmpR op_notIn_seq (pv 7) (pv 1) (by rfl)) (pw_or (pt_cmpR op_notIn_seq (pv 7) (pe_ix ix_kdict (pe_glob (v := .ref hB.choose) rfl hB.choose_spec.1 rfl) (pv 4) (fun _ _ => rfl)) (by rfl)) (pw_or1 (pt_not (pt_val (pe_call (ok_is_form T) (hr.mono (by decide)) rfl T.is_form.g T.is_form.F.kp T.is_form.b .nil pass0 (pa_cons (pv 7) (pa_cons (pv 8) pa_nil)))))))))
      (pss_one (ps_raise rfl (takes_of rfl rfl rfl rfl) (pmk_oex T.x_BadText.T T.x_BadText.iC T.x_BadText.tI (ok_BadText___init T) (hr.mono (by decide)) T.x_BadText.b .nil passL rfl T.x_BadText.g (pa_cons (pv 5) pa_nil))))
      pss_nil)
      (pss_cons (ps_expr (pe_bm PySem.F.plainAttrs_list PySem.F.slot_list_append PySem.F.type_list_append mt_append (pv 3) (pa_cons (pe_tup (pa_cons (pv 7) (pa_cons (pe_lc (own := [("figures", 9)]) (g := (gName 9)) (tt := tYes) rfl sc_rows_of.nd (pi_list (pv 8)) (blkOk_by (own := [("figures", 9)]) (N := ["text", "words", "lines", "rows", "last", "number", "line", "word", "rest", "figures"]) (sc := defScope s_rows_of) (by decide +kernel)) (fun _ _ _ _ _ => (pg_name (i := 9) sc_rows_of.nd rfl (Or.inl rfl))) (fun _ _ _ _ _ => pts_nil) (fun _ _ _ _ _ => (by exact (pe_callTy call_int_str (by rfl) T.n_int (by decide +kernel) (pa_cons (pv 9) pa_nil))))) pa_nil))) pa_nil)))
      (pss_one (ps_set (i := 4) sc_rows_of.nd rfl (Or.inl rfl) (pv 7)))))))
      (pss_cons (ps_if (PW.pt (pw_or (pt_cmpR op_ne (pe_ix ix_list (pv 2) (pe_un un_neg pe_int) (fun _ _ => rfl)) pe_str (nomark _)) (pw_or1 (pt_cmpR op_in_seq (pv 4) (pe_tup (pa_cons pe_str (pa_cons pe_str pa_nil))) (by rfl)))))
      (pss_one (ps_raise rfl (takes_of rfl rfl rfl rfl) (pmk_oex T.x_BadText.T T.x_BadText.iC T.x_BadText.tI (ok_BadText___init T) (hr.mono (by decide)) T.x_BadText.b .nil passL rfl T.x_BadText.g (pa_cons (pe_callB call_len_seq (by rfl) T.n_len (by decide +kernel) (pa_cons (pv 2) pa_nil)) pa_nil))))
      pss_nil)
      (pss_one (ps_ret (pv 3))))))))), ?_⟩
      refine ⟨_, rfl, _, _, _, _, _, rfl, .ty "str", ty, kt, _, rfl, iteT ?_⟩
      exact ⟨by show 1 ≤ 1000; decide, fun a hA => key _ H (fun H' d s e => ke H' d s e) a hA⟩
end
end Hc


set_option Elab.async false
set_option linter.all false
set_option pp.maxSteps 900
set_option maxRecDepth 100000
set_option maxHeartbeats 4000000
set_option autoImplicit false
namespace Hc
open PySem L2
def ofW (w : Str) (r : Str × List Int) : Bool := decide (V.str r.1 = V.str w)
def numsOf (w : Str) (rs : List (Str × List Int)) : List (List Int) := (rs.filter (ofW w)).map (·.2)
def rdsQ (qs : List (List Int)) : List D := qs.map fun q => .tup [.int (q.getD 0 0), .int (q.getD 1 0)]
def colQ (k : Nat) (qs : List (List Int)) : List Int := qs.map fun q => q.getD k 0
/-- a list of references to lists of ints -/
def ListsAt (H : Hp) (p : Addr) (qs : List (List Int)) : Prop := ∃ vs : List V, H p = some (.lst vs) ∧ vs.length = qs.length ∧ ∀ (i : Nat) (v : V) (q : List Int), vs[i]? = some v → qs[i]? = some q → ∃ l, v = .ref l ∧ H l = some (.lst (q.map V.int))
theorem ListsAt.same {H H' : Hp} {p : Addr} {qs : List (List Int)} (x : ListsAt H p qs) (s : Same H H') : ListsAt H' p qs := by
  obtain ⟨vs, a, b, c⟩ := x
  exact ⟨vs, s _ _ a, b, fun i v r e1 e2 => by obtain ⟨l, e, z⟩ := c i v r e1 e2; exact ⟨l, e, s _ _ z⟩⟩
theorem nums_app (w : Str) (a : List (Str × List Int)) (r : Str × List Int) : numsOf w (a ++ [r]) = numsOf w a ++ if ofW w r = true then [r.2] else [] := by
  unfold numsOf
  rw [List.filter_append, List.map_append]
  congr 1
  cases h : ofW w r with
  | true => rw [List.filter_cons_of_pos h, if_pos rfl]; rfl
  | false => rw [List.filter_cons_of_neg (by rw [h]; decide), if_neg (by decide)]; rfl
theorem nums_len (w : Str) (rs : List (Str × List Int)) : (numsOf w rs).length ≤ rs.length := by
  unfold numsOf
  rw [List.length_map]
  exact List.length_filter_le ..
theorem four_of {q : List Int} (h : q.length = 4) : ∃ a b c d, q = [a, b, c, d] := by
  match q, h with
  | [a, b, c, d], _ => exact ⟨a, b, c, d, rfl⟩
theorem noLs_rdsQ : ∀ qs : List (List Int), noLs (rdsQ qs) = true
  | [] => rfl
  | q :: qs => by
    show (noL (.tup [.int (q.getD 0 0), .int (q.getD 1 0)]) && noLs (rdsQ qs)) = true
    rw [noLs_rdsQ qs]; rfl
section
variable {P : Program} {w : World} {K : PySem.W.Frag} {mg : Str → Option Value} {base : Heap}
def spWebOf (C CB : Addr) : Sp := fun vs H Q E => ∃ (h p : Addr) (rs : List (Str × List Int)) (w0 : Str) (n : Int), vs = [.ref p] ∧ RowsAt H p rs ∧ rs[0]? = some (w0, [n]) ∧ rs.length ≤ 10000 ∧ (∀ q ∈ numsOf "road" rs, q.length = 4) ∧
  (due (.int n) (.tup (rdsQ (numsOf "road" rs))) (.tup ((colQ 2 (numsOf "road" rs)).map D.int)) (.tup ((colQ 3 (numsOf "road" rs)).map D.int)) = none → ∀ H' p', Same H H' →
    (∃ dx v2 v3 v4, H' p' = some (.ins C dx (webF (.int n) v2 v3 v4)) ∧ Rp H' h v2 (.tup (rdsQ (numsOf "road" rs))) ∧ Rp H' h v3 (.tup ((colQ 2 (numsOf "road" rs)).map D.int)) ∧ Rp H' h v4 (.tup ((colQ 3 (numsOf "road" rs)).map D.int))) → Q (.ref p') H') ∧
  (∀ part, due (.int n) (.tup (rdsQ (numsOf "road" rs))) (.tup ((colQ 2 (numsOf "road" rs)).map D.int)) (.tup ((colQ 3 (numsOf "road" rs)).map D.int)) = some part → ∀ H' d, Same H H' → H' d = some (.xd [("part", .str part)]) → E (.ref CB) (some d) H')
theorem ok_web_of (T : Tx K mg) : FnOk P w K mg base (L2.CX P w) 9 T.web_of.f T.web_of.fd ["rows"] (spWebOf T.Web.C T.x_BadWeb.C) := by
  refine T.web_of.F.okX sc_web_of (fun vs H Q E h => ?_) (fun cdv A outer s H vs Q E hr h => ?_)
  · obtain ⟨h, p, rs, w0, n, rfl, _⟩ := h
    rfl
  · obtain ⟨h, p, rs, w0, n, rfl, R, e0, hl, h4, kq, ke⟩ := h
    refine ⟨_, (pss_cons (ps_setLc (i := 1) (own := [("word", 2), ("numbers", 3)]) (g := (gTup K 2 (gCons (gName 2) (gCons (gName 3) gNil))))  rfl sc_web_of.nd rfl rfl (sw_true rfl rfl rfl (by decide +kernel)) (pi_list (pv 0)) (blkOk_by (own := [("word", 2), ("numbers", 3)]) (N := ["rows", "roads", "word", "numbers", "begin", "end", "_", "rooms", "time"]) (sc := defScope s_web_of) (by decide +kernel)) (fun _ _ _ _ _ => (pg_tup (by rfl) (pgs_cons (pg_name (i := 2) sc_web_of.nd rfl (Or.inl rfl)) (pgs_cons (pg_name (i := 3) sc_web_of.nd rfl (Or.inl rfl)) pgs_nil)))) (fun _ _ _ _ _ => (pts_one (by exact (pt_cmpR op_eq (pv 2) pe_str (nomark _))))) (fun _ _ _ _ _ => (by exact (pv 3))))
      (pss_one (ps_ret (pe_makeS T.Web.mk1 (ok_Web___init T) (hr.mono (by decide)) rfl T.Web.g T.Web.b .nil (fun σ => passAt (takes_of rfl rfl rfl rfl) σ) (pa_cons (pe_ix ix_list (pe_ix ix_tup (pe_ix ix_list (pv 0) pe_int (fun _ _ => rfl)) pe_int (fun _ _ => rfl)) pe_int (fun _ _ => rfl)) (pa_cons (pe_callTy call_tuple_of (by rfl) T.n_tuple (by decide +kernel) (pa_cons (pe_lc (own := [("begin", 4), ("end", 5), ("_", 6)]) (g := (gLst K 4 (gCons (gName 4) (gCons (gName 5) (gCons (gName 6) (gCons (gName 6) gNil)))))) (tt := tYes) rfl sc_web_of.nd (pi_list (pv 1)) (blkOk_by (own := [("begin", 4), ("end", 5), ("_", 6)]) (N := ["rows", "roads", "word", "numbers", "begin", "end", "_", "rooms", "time"]) (sc := defScope s_web_of) (by decide +kernel)) (fun _ _ _ _ _ => (pg_lst (by rfl) (pgs_cons (pg_name (i := 4) sc_web_of.nd rfl (Or.inl rfl)) (pgs_cons (pg_name (i := 5) sc_web_of.nd rfl (Or.inl rfl)) (pgs_cons (pg_name (i := 6) sc_web_of.nd rfl (Or.inl rfl)) (pgs_cons (pg_name (i := 6) sc_web_of.nd rfl (Or.inl rfl)) pgs_nil)))))) (fun _ _ _ _ _ => pts_nil) (fun _ _ _ _ _ => (by exact (pe_tup (pa_cons (pv 4) (pa_cons (pv 5) pa_nil)))))) pa_nil)) (pa_cons (pe_callTy call_tuple_of (by rfl) T.n_tuple (by decide +kernel) (pa_cons (pe_lc (own := [("_", 6), ("rooms", 7)]) (g := (gLst K 4 (gCons (gName 6) (gCons (gName 6) (gCons (gName 7) (gCons (gName 6) gNil)))))) (tt := tYes) rfl sc_web_of.nd (pi_list (pv 1)) (blkOk_by (own := [("_", 6), ("rooms", 7)]) (N := ["rows", "roads", "word", "numbers", "begin", "end", "_", "rooms", "time"]) (sc := defScope s_web_of) (by decide +kernel)) (fun _ _ _ _ _ => (pg_lst (by rfl) (pgs_cons (pg_name (i := 6) sc_web_of.nd rfl (Or.inl rfl)) (pgs_cons (pg_name (i := 6) sc_web_of.nd rfl (Or.inl rfl)) (pgs_cons (pg_name (i := 7) sc_web_of.nd rfl (Or.inl rfl)) (pgs_cons (pg_name (i := 6) sc_web_of.nd rfl (Or.inl rfl)) pgs_nil)))))) (fun _ _ _ _ _ => pts_nil) (fun _ _ _ _ _ => (by exact (pv 7)))) pa_nil)) (pa_cons (pe_callTy call_tuple_of (by rfl) T.n_tuple (by decide +kernel) (pa_cons (pe_lc (own := [("_", 6), ("time", 8)]) (g := (gLst K 4 (gCons (gName 6) (gCons (gName 6) (gCons (gName 6) (gCons (gName 8) gNil)))))) (tt := tYes) rfl sc_web_of.nd (pi_list (pv 1)) (blkOk_by (own := [("_", 6), ("time", 8)]) (N := ["rows", "roads", "word", "numbers", "begin", "end", "_", "rooms", "time"]) (sc := defScope s_web_of) (by decide +kernel)) (fun _ _ _ _ _ => (pg_lst (by rfl) (pgs_cons (pg_name (i := 6) sc_web_of.nd rfl (Or.inl rfl)) (pgs_cons (pg_name (i := 6) sc_web_of.nd rfl (Or.inl rfl)) (pgs_cons (pg_name (i := 6) sc_web_of.nd rfl (Or.inl rfl)) (pgs_cons (pg_name (i := 8) sc_web_of.nd rfl (Or.inl rfl)) pgs_nil)))))) (fun _ _ _ _ _ => pts_nil) (fun _ _ _ _ _ => (by exact (pv 8)))) pa_nil)) pa_nil)))))))), ?_⟩
    obtain ⟨vs, eP, lv, hv⟩ := R
    refine ⟨_, rfl, p, rfl, ⟨_, SqL.of eP⟩, fun D hD => ?_⟩
    refine lc_list (K := K) (a := p) (xs := vs) (fun i H' => Same H H' ∧ ∃ ws : List V, H' D = some (.lst ws) ∧ ws.length = (numsOf "road" (rs.take i)).length ∧ ∀ (j : Nat) (v : V) (q : List Int), ws[j]? = some v → (numsOf "road" (rs.take i))[j]? = some q → ∃ l, v = .ref l ∧ H l = some (.lst (q.map V.int)))
      ⟨same_upd hD, [], upd_same, rfl, fun j v q e => by simp at e⟩ (fun i H' _ ⟨z, _⟩ => SqL.of (z _ _ eP)) ?_ ?_
    · rintro i v H2 hx ⟨s2, ws, eD, lw, hw⟩
      have hi : i < vs.length := (List.getElem?_eq_some_iff.mp hx).1
      have er : rs[i]? = some rs[i] := List.getElem?_eq_getElem (by omega)
      obtain ⟨q, l, rfl, e1, e2⟩ := hv i v _ hx er
      refine ⟨q, _, rfl, SqT.of (s2 _ _ e1), rfl, _, _, rfl, _, _, rfl, rfl, rfl, _, rfl, rfl, _, rfl, ?_⟩
      rw [take_more er, nums_app]
      cases hc : ofW "road" rs[i] with
      | false =>
        have hc' : decide (V.str rs[i].1 = V.str "road") = false := hc
        rw [hc', if_neg (by decide), if_neg (by decide), List.append_nil]
        exact ⟨s2, ws, eD, lw, hw⟩
      | true =>
        have hc' : decide (V.str rs[i].1 = V.str "road") = true := hc
        rw [hc', if_pos rfl, if_pos rfl]
        refine ⟨_, rfl, ws, eD, ?_, same_putX s2 hD, _, upd_same, by rw [List.length_append, List.length_append, lw]; rfl, fun j v q' e3 e4 => ?_⟩
        · have := nums_len "road" (rs.take i)
          rw [List.length_take] at this
          exact line_lt (by omega)
        · by_cases hj : j < ws.length
          · rw [List.getElem?_append_left hj] at e3
            rw [List.getElem?_append_left (by omega)] at e4
            exact hw j v q' e3 e4
          · rw [List.getElem?_append_right (by omega)] at e3 e4
            rw [lw] at e3
            cases z : j - (numsOf "road" (rs.take i)).length with
            | succ m => rw [z] at e3; simp at e3
            | zero =>
              rw [z] at e3 e4
              obtain rfl : v = .ref l := by simpa using e3.symm
              obtain rfl : q' = rs[i].2 := by simpa using e4.symm
              exact ⟨l, rfl, e2⟩
    · rintro H2 ⟨s2, ws, eD, lw, hw⟩
      rw [lv, List.take_length] at lw hw
      have hn := nums_len "road" rs
      generalize numsOf "road" rs = qs at *
      obtain ⟨v0, ev0⟩ : ∃ v, vs[0]? = some v := by
        have := (List.getElem?_eq_some_iff.mp e0).1
        exact ⟨vs[0], List.getElem?_eq_getElem (by omega)⟩
      obtain ⟨q0, l0, rfl, f1, f2⟩ := hv 0 v0 _ ev0 e0
      have eP2 := s2 _ _ eP
      refine ⟨_, rfl, p, _, 0, _, rfl, rfl, SqL.of eP2, atI_nat (j := 0) ev0, q0, _, 1, _, rfl, rfl, SqT.of (s2 _ _ f1), atI_nat (j := 1) rfl, l0, _, 0, _, rfl, rfl, SqL.of (s2 _ _ f2), atI_nat (j := 0) rfl, ?_⟩
      have hq4 : ∀ (j : Nat) (v : V), ws[j]? = some v → ∃ l a b c d, v = .ref l ∧ qs[j]? = some [a, b, c, d] ∧ H l = some (.lst [.int a, .int b, .int c, .int d]) := fun j v e => by
        have hj : j < qs.length := by rw [← lw]; exact (List.getElem?_eq_some_iff.mp e).1
        have eq := List.getElem?_eq_getElem hj
        obtain ⟨a, b, c, d, e4⟩ := four_of (h4 _ (List.getElem_mem hj))
        rw [e4] at eq
        obtain ⟨l, e1, e2⟩ := hw j v _ e eq
        exact ⟨l, a, b, c, d, e1, eq, e2⟩
      have hl2 : qs.length ≤ 10000 := by omega
      -- the roads
      refine ⟨_, rfl, D, rfl, ⟨_, SqL.of eD⟩, fun N hN => ?_⟩
      refine lc_list (K := K) (a := D) (xs := ws) (fun i H' => Same H2 H' ∧ ∃ ys : List V, H' N = some (.lst ys) ∧ RpA H' h ys (rdsQ (qs.take i))) ⟨same_upd hN, [], upd_same, .nil⟩ (fun i H' _ ⟨z, _⟩ => SqL.of (z _ _ eD)) ?_ ?_
      · rintro i v H3 hx ⟨s3, ys, eN, ra⟩
        obtain ⟨l, a, b, c, d, rfl, eq, el⟩ := hq4 i v hx
        have hi : i < qs.length := (List.getElem?_eq_some_iff.mp eq).1
        refine ⟨l, _, rfl, SqL.of (s3 _ _ (s2 _ _ el)), rfl, _, _, rfl, _, _, rfl, _, _, rfl, _, _, rfl, rfl, rfl, tyes ⟨_, rfl, _, rfl, by show 2 ≤ sizeLine; decide, fun t ht => ⟨ys, (upd_ne (ne_of_none eN ht)).trans eN, ?_, same_putX (s3.trans (same_upd ht)) hN, _, upd_same, ?_⟩⟩⟩
        · have := ra.len
          rw [this]
          unfold rdsQ
          rw [List.length_map, List.length_take]; exact line_lt (by omega)
        · have nN := ne_of_none eN ht
          have k1 : NL H3 (upd (upd H3 t (.tup [.int a, .int b])) N (.lst (ys ++ [.ref t]))) := (NL.of (same_upd ht)).trans (NL.upd ((upd_ne nN).trans eN))
          rw [take_more eq]
          unfold rdsQ
          rw [List.map_append]
          refine (ra.nl k1 (noLs_rdsQ _)).app (.cons (.tup (xs := [.int a, .int b]) ((upd_ne (Ne.symm nN)).trans upd_same) (by show 2 ≤ 100000; decide) (.cons (.int a) (.cons (.int b) .nil))) .nil)
      · rintro H3 ⟨s3, ys, eN, ra⟩
        rw [lw, List.take_length] at ra
        refine ⟨N, ys, rfl, .inl ⟨SqL.of eN, fun t1 ht1 => ?_⟩⟩
        have s4 := s3.trans (same_upd (o := .tup ys) ht1)
        have e4 : (upd H3 t1 (.tup ys)) t1 = some (.tup ys) := upd_same
        have r4 := ra.same (same_upd (o := .tup ys) ht1)
        generalize upd H3 t1 (.tup ys) = H4 at *
        have rr : Rp H4 h (.ref t1) (.tup (rdsQ qs)) := .tup e4 (by rw [r4.len]; unfold rdsQ; rw [List.length_map]; omega) r4
        clear ht1 hN
        -- the rooms
        refine ⟨_, rfl, D, rfl, ⟨_, SqL.of (s4 _ _ eD)⟩, fun N2 hN2 => ?_⟩
        refine lc_list (K := K) (a := D) (xs := ws) (fun i H' => Same H4 H' ∧ H' N2 = some (.lst ((colQ 2 (qs.take i)).map V.int))) ⟨same_upd hN2, upd_same⟩ (fun i H' _ ⟨z, _⟩ => SqL.of (z _ _ (s4 _ _ eD))) ?_ ?_
        · rintro i v H5 hx ⟨s5, eN⟩
          obtain ⟨l, a, b, c, d, rfl, eq, el⟩ := hq4 i v hx
          refine ⟨l, _, rfl, SqL.of (s5 _ _ (s4 _ _ (s2 _ _ el))), rfl, _, _, rfl, _, _, rfl, _, _, rfl, _, _, rfl, rfl, rfl, tyes ⟨_, rfl, _, eN, ?_, same_putX s5 hN2, ?_⟩⟩
          · unfold colQ; rw [List.length_map, List.length_map, List.length_take]; exact line_lt (by omega)
          · unfold colQ; rw [upd_same, take_more eq, List.map_append, List.map_append]; rfl
        · rintro H5 ⟨s5, eN⟩
          rw [lw, List.take_length] at eN
          refine ⟨N2, _, rfl, .inl ⟨SqL.of eN, fun t2 ht2 => ?_⟩⟩
          have s6 := s5.trans (same_upd (o := .tup ((colQ 2 qs).map V.int)) ht2)
          have e6 : (upd H5 t2 (.tup ((colQ 2 qs).map V.int))) t2 = some (.tup ((colQ 2 qs).map V.int)) := upd_same
          generalize upd H5 t2 (.tup ((colQ 2 qs).map V.int)) = H6 at *
          have rm6 : Rp H6 h (.ref t2) (.tup ((colQ 2 qs).map Hc.D.int)) := .tup e6 (by unfold colQ; rw [List.length_map, List.length_map]; omega) (RpA.ints _)
          clear ht2 hN2
          have eD6 := s6 _ _ (s4 _ _ eD)
          -- the times
          refine ⟨_, rfl, D, rfl, ⟨_, SqL.of eD6⟩, fun N3 hN3 => ?_⟩
          refine lc_list (K := K) (a := D) (xs := ws) (fun i H' => Same H6 H' ∧ H' N3 = some (.lst ((colQ 3 (qs.take i)).map V.int))) ⟨same_upd hN3, upd_same⟩ (fun i H' _ ⟨z, _⟩ => SqL.of (z _ _ eD6)) ?_ ?_
          · rintro i v H7 hx ⟨s7, eN⟩
            obtain ⟨l, a, b, c, d, rfl, eq, el⟩ := hq4 i v hx
            refine ⟨l, _, rfl, SqL.of (s7 _ _ (s6 _ _ (s4 _ _ (s2 _ _ el)))), rfl, _, _, rfl, _, _, rfl, _, _, rfl, _, _, rfl, rfl, rfl, tyes ⟨_, rfl, _, eN, ?_, same_putX s7 hN3, ?_⟩⟩
            · unfold colQ; rw [List.length_map, List.length_map, List.length_take]; exact line_lt (by omega)
            · unfold colQ; rw [upd_same, take_more eq, List.map_append, List.map_append]; rfl
          · rintro H7 ⟨s7, eN⟩
            rw [lw, List.take_length] at eN
            refine ⟨N3, _, rfl, .inl ⟨SqL.of eN, fun t3 ht3 => ?_⟩⟩
            have s8 := s7.trans (same_upd (o := .tup ((colQ 3 qs).map V.int)) ht3)
            have e8 : (upd H7 t3 (.tup ((colQ 3 qs).map V.int))) t3 = some (.tup ((colQ 3 qs).map V.int)) := upd_same
            generalize upd H7 t3 (.tup ((colQ 3 qs).map V.int)) = H8 at *
            have tm8 : Rp H8 h (.ref t3) (.tup ((colQ 3 qs).map Hc.D.int)) := .tup e8 (by unfold colQ; rw [List.length_map, List.length_map]; omega) (RpA.ints _)
            clear ht3 hN3
            have rr8 := (rr.same s6).same s8
            have rm8 := rm6.same s8
            have sAll : Same H H8 := ((s2.trans s4).trans s6).trans s8
            intro x dx hx hdx nx
            have sx : Same H8 (upd (upd H8 dx (.own x)) x (.ins T.Web.C dx [])) := fun b o q => by
              rw [upd_ne (ne_of_none q hx), upd_ne (ne_of_none q hdx)]; exact q
            refine ⟨h, x, dx, .int n, _, _, _, .int n, _, _, _, rfl, upd_same, .int n, rr8.same sx, rm8.same sx, tm8.same sx, fun hd H9 b9 e9 => ⟨rfl, ?_⟩, fun part hd H9 d s9 e9 => ke part hd H9 d ((sAll.trans sx).trans s9) e9⟩
            have s9 : Same H8 H9 := fun b o q => b9 _ _ (sx _ _ q) (ne_of_none q hx)
            exact kq hd H9 x (sAll.trans s9) ⟨dx, _, _, _, e9, rr8.same s9, rm8.same s9, tm8.same s9⟩
end
end Hc


set_option Elab.async false
set_option linter.all false
set_option pp.maxSteps 900
set_option maxRecDepth 100000
set_option maxHeartbeats 4000000
set_option autoImplicit false
namespace Hc
open PySem L2
def headN (x : Str) : Int := (rowOf ((bodyOf x).getD 0 "")).2.getD 0 0
def rowsX (x : Str) : List (Str × List Int) := (bodyOf x).map rowOf
theorem key_str {a b : Str} (h : decide (V.str a = V.str b) = true) : a = b := by
  have := of_decide_eq_true h
  injection this
theorem str_key {a b : Str} (h : a = b) : decide (V.str a = V.str b) = true := by rw [h]; exact decide_eq_true rfl
theorem rows_head {ws : List Str} {x : Str} (hok : okAll ws x) (he : endOk x) : (rowsX x)[0]? = some (("web" : Str), [headN x]) := by
  have hb : 0 < (bodyOf x).length := by
    cases z : (bodyOf x).length with
    | zero =>
      have := he.2
      rw [z] at this
      exact absurd (show ("" : Str) ∈ ([("road" : Str), "letter"] : List Str) from this) (by decide +kernel)
    | succ n => exact Nat.succ_pos n
  have h0 := hok 0 hb
  unfold okAt okLine at h0
  rw [Bool.and_eq_true, Bool.and_eq_true] at h0
  have h2 := in_str.mp h0.2.1
  have h2 : wordOf ((bodyOf x).getD 0 "") ∈ behindS "" := h2
  rw [beh0] at h2
  have hw := List.mem_singleton.mp h2
  have h3 := h0.2.2
  rw [hw] at h3
  unfold isFormS at h3
  split at h3
  · cases h3
  · rw [if_neg (by decide +kernel), if_pos (by decide +kernel)] at h3
    have hl : (restOf ((bodyOf x).getD 0 "")).length = 1 := by have := of_decide_eq_true h3; omega
    unfold rowsX
    rw [List.getElem?_map, body_get hb]
    show some (rowOf _) = _
    unfold headN rowOf
    rw [hw]
    congr 2
    match q : restOf ((bodyOf x).getD 0 ""), hl with
    | [a], _ => rfl
theorem rows_mem {ws : List Str} {x : Str} (hok : okAll ws x) {r : Str × List Int} (h : r ∈ rowsX x) : ∃ line, r = rowOf line ∧ isFormS (wordOf line) (restOf line) = true := by
  unfold rowsX at h
  obtain ⟨l, hl, rfl⟩ := List.mem_map.mp h
  obtain ⟨i, hi, e⟩ := List.mem_iff_getElem.mp hl
  have h0 := hok i hi
  have eg : (bodyOf x).getD i "" = l := by rw [List.getD_eq_getElem?_getD, List.getElem?_eq_getElem hi, e]; rfl
  unfold okAt at h0
  rw [eg] at h0
  exact ⟨l, rfl, ok_form h0⟩
theorem nums_mem {w : Str} {rs : List (Str × List Int)} {q : List Int} (h : q ∈ numsOf w rs) : (w, q) ∈ rs := by
  unfold numsOf at h
  obtain ⟨⟨a, b⟩, hr, rfl⟩ := List.mem_map.mp h
  obtain ⟨h1, h2⟩ := List.mem_filter.mp hr
  have : a = w := key_str h2
  rw [← this]
  exact h1
theorem rows_road {ws : List Str} {x : Str} (hok : okAll ws x) : ∀ q ∈ numsOf "road" (rowsX x), q.length = 4 := by
  intro q hq
  obtain ⟨l, e, hf⟩ := rows_mem hok (nums_mem hq)
  unfold rowOf at e
  injection e with e1 e2
  rw [← e1] at hf
  unfold isFormS at hf
  split at hf
  · cases hf
  · rw [if_neg (by decide +kernel), if_neg (by decide +kernel)] at hf
    have := of_decide_eq_true hf
    rw [e2, List.length_map]
    omega
theorem rows_letter {ws : List Str} {x : Str} (hok : okAll ws x) : ∀ q ∈ numsOf "letter" (rowsX x), 1 < q.length ∧ q.length % 2 = 1 := by
  intro q hq
  obtain ⟨l, e, hf⟩ := rows_mem hok (nums_mem hq)
  unfold rowOf at e
  injection e with e1 e2
  rw [← e1] at hf
  unfold isFormS at hf
  split at hf
  · cases hf
  · rw [if_pos (by decide +kernel), Bool.and_eq_true] at hf
    have h1 := of_decide_eq_true hf.1
    have h2 := of_decide_eq_true hf.2
    rw [e2, List.length_map]
    omega
theorem rows_len {x : Str} (h : x.length ≤ 9000) : (rowsX x).length ≤ 10000 := by
  have := lines_len x
  have := body_length x
  unfold rowsX
  rw [List.length_map]
  omega
def isStr : D → Bool | .str _ => true | _ => false
theorem kitStr (d : D) (h : isStr d = false) : kitB (tyOf d) "str" = some false := by
  cases d <;> first | exact Bool.noConfusion h | (simp only [tyOf]; decide +kernel)
def dueQ (n : Int) (qs : List (List Int)) : Option Str := due (.int n) (.tup (rdsQ qs)) (.tup ((colQ 2 qs).map D.int)) (.tup ((colQ 3 qs).map D.int))
/-- a web's object as it was made -/
def WebNew (C : Addr) (H : Hp) (h p : Addr) (n : Int) (qs : List (List Int)) : Prop := ∃ dx v2 v3 v4, H p = some (.ins C dx (webF (.int n) v2 v3 v4)) ∧ Rp H h v2 (.tup (rdsQ qs)) ∧ Rp H h v3 (.tup ((colQ 2 qs).map D.int)) ∧ Rp H h v4 (.tup ((colQ 3 qs).map D.int))
section
variable {P : Program} {w : World} {K : PySem.W.Frag} {mg : Str → Option Value} {base : Heap}
def spReadWeb (K : PySem.W.Frag) (C CT CB : Addr) : Sp := fun vs H Q E =>
  (∃ (h : Addr) (x : Str), vs = [.str x] ∧ x.length ≤ 9000 ∧
    (okAll ["web", "road"] x → endOk x → dueQ (headN x) (numsOf "road" (rowsX x)) = none → ∀ H' p', Same H H' → WebNew C H' h p' (headN x) (numsOf "road" (rowsX x)) → Q (.ref p') H') ∧
    (∀ k, BadAt ["web", "road"] x k → ∀ H' d, Same H H' → H' d = some (.xd [("line", .int k)]) → E (.ref CT) (some d) H') ∧
    (∀ part, okAll ["web", "road"] x → endOk x → dueQ (headN x) (numsOf "road" (rowsX x)) = some part → ∀ H' d, Same H H' → H' d = some (.xd [("part", .str part)]) → E (.ref CB) (some d) H')) ∨
  (∃ (h : Addr) (v : V) (d0 : D), vs = [v] ∧ Rp H h v d0 ∧ isStr d0 = false ∧ ∀ H' d, Same H H' → H' d = some (.xd [("line", .int 0)]) → E (.ref CT) (some d) H')
end
end Hc


set_option Elab.async false
set_option linter.all false
set_option maxRecDepth 100000
set_option maxHeartbeats 1000000
set_option autoImplicit false
namespace L2
open PySem PySem.Spec PyProof.Rows
/-- either of two readings -/
theorem pi_or {X : Cx} {tg e : Expr} {w1 w2 : TI} (h1 : PI X tg e w1) (h2 : PI X tg e w2) : PI X tg e (fun σ H R => w1 σ H R ∨ w2 σ H R) where
  run pins s σ H R I h := by
    rcases h with h | h
    · exact h1.run pins s σ H R I h
    · exact h2.run pins s σ H R I h
end L2
namespace Hc
open PySem L2
/-- [p(x) for x in l], l a list of things -/
theorem all_lst {K : PySem.W.Frag} {H : Hp} {h a A : Addr} {xs : List V} {ds : List D} {j : Nat} {te : TE} {σ : St} {vs : List Nat} {Qd : Hp → Prop}
    (e : H a = some (.lst xs)) (z : xs.length ≤ 100000) (ra : RpA H h xs ds) (p : D → Bool) (hA : H A = none)
    (hw : ∀ x, wipe ((wipe σ vs).set j (some x)) vs = wipe σ vs)
    (hs : ∀ x d H' (Q : VK), Same H H' → Rp H' h x d → (∀ H4, Same H' H4 → Q (.bl (p d)) H4) → te ((wipe σ vs).set j (some x)) H' Q)
    (hd : ∀ H', Same H H' → SqL K H' A ((ds.map p).map V.bl) → Qd H') :
    ∃ W : Nat → Nat → Hp → Prop, (∃ m, W 0 m (upd H A (.lst []))) ∧ ∀ i m H, W i m H →
      ((Itl K a).stop i H ∧ Qd H) ∨ ((Itl K a).go i H ∧ ∃ Nx : Hp → Prop, (∀ H', Nx H' → ∃ m', m' < m ∧ W (i + 1) m' H') ∧ ∀ x H', (Itl K a).yld i H x H' → (gName j) x (wipe σ vs) H' fun σ2 H2 => wipe σ2 vs = wipe σ vs ∧ tYes σ2 H2 fun b H3 =>
        if b = true then te σ2 H3 fun y H4 => ∃ acc, H4 A = some (.lst acc) ∧ acc.length < sizeLine ∧ Nx (upd H4 A (.lst (acc ++ [y]))) else Nx H3) := by
  have hl := ra.len
  refine lc_list (K := K) (xs := xs) (fun i H' => Same H (fun b => if b = A then none else H' b) ∧ H' A = some (.lst (((ds.take i).map p).map V.bl)))
    ⟨mask_upd hA (Same.refl _), upd_same⟩ (fun i H' hi ⟨s, _⟩ => SqL.of (mask hA s _ _ e)) ?_ ?_
  · intro i x H' hx ⟨s, hH⟩
    have sm := mask hA s
    obtain ⟨d, hd1, rp⟩ := ra.get hx
    have hi : i < xs.length := (List.getElem?_eq_some_iff.mp hx).1
    refine ⟨hw x, tyes (hs x d H' _ sm (rp.same sm) fun H4 s4 => ⟨_, s4 _ _ hH, ?_, mask_upd hA (sm.trans s4), ?_⟩)⟩
    · rw [List.length_map, List.length_map, List.length_take]
      exact line_lt (by omega)
    · rw [upd_same, take_more hd1, List.map_append, List.map_append]; rfl
  · intro H' ⟨s, hH⟩
    rw [hl, List.take_length] at hH
    exact hd H' (mask hA s) (SqL.of hH)
/-- the chosen items -/
def pick {α : Type} (l : List α) (ks : List Nat) : List α := ks.filterMap fun k => l[k]?
theorem pick_cons {α : Type} {l : List α} {k : Nat} {x : α} (ks : List Nat) (h : l[k]? = some x) : pick l (ks ++ [k]) = pick l ks ++ [x] := by
  unfold pick
  rw [List.filterMap_append, List.filterMap_cons, h]; rfl
theorem pick_len {α : Type} {l : List α} : ∀ {ks : List Nat}, (∀ k ∈ ks, k < l.length) → (pick l ks).length = ks.length
  | [], _ => rfl
  | k :: ks, h => by
    have h1 := List.getElem?_eq_getElem (h k List.mem_cons_self)
    show (List.filterMap _ _).length = _
    rw [List.filterMap_cons, h1]
    show (pick l ks).length + 1 = ks.length + 1
    rw [pick_len fun x hx => h x (List.mem_cons_of_mem _ hx)]
/-- [t[k] for k in ks], a tuple's items -/
theorem lc_pick {K : PySem.W.Frag} {H0 : Hp} {h b D : Addr} {xs : List V} {ds : List Hc.D} {ks : List Nat} {j : Nat} {te : TE} {σ : St} {vs : List Nat} {Qd : Hp → Prop}
    (eb : H0 b = some (.lst (ks.map fun j => V.int (j : Nat)))) (hz : ks.length ≤ 1000) (hD : H0 D = none) (ra : RpA H0 h xs ds) (hk : ∀ k ∈ ks, k < xs.length)
    (hw : ∀ x, wipe ((wipe σ vs).set j (some x)) vs = wipe σ vs)
    (he : ∀ k x, xs[k]? = some x → ∀ H' (Q : VK), Same H0 H' → Q x H' → te ((wipe σ vs).set j (some (.int (k : Nat)))) H' Q)
    (hd : ∀ H' ys, Same H0 H' → H' D = some (.lst ys) → RpA H' h ys (pick ds ks) → Qd H') :
    ∃ W : Nat → Nat → Hp → Prop, (∃ m, W 0 m (upd H0 D (.lst []))) ∧ ∀ i m H, W i m H →
      ((Itl K b).stop i H ∧ Qd H) ∨ ((Itl K b).go i H ∧ ∃ Nx : Hp → Prop, (∀ H', Nx H' → ∃ m', m' < m ∧ W (i + 1) m' H') ∧ ∀ x H', (Itl K b).yld i H x H' → (gName j) x (wipe σ vs) H' fun σ2 H2 => wipe σ2 vs = wipe σ vs ∧ tYes σ2 H2 fun b H3 =>
        if b = true then te σ2 H3 fun y H4 => ∃ acc, H4 D = some (.lst acc) ∧ acc.length < sizeLine ∧ Nx (upd H4 D (.lst (acc ++ [y]))) else Nx H3) := by
  refine lc_list (K := K) (xs := ks.map fun j => V.int (j : Nat)) (fun i H' => Same H0 (fun b => if b = D then none else H' b) ∧ ∃ ys, H' D = some (.lst ys) ∧ ys.length = i ∧ RpA H0 h ys (pick ds (ks.take i)))
    ⟨mask_upd hD (Same.refl _), [], upd_same, rfl, by rw [List.take_zero]; exact .nil⟩ (fun i H' hi ⟨s, _⟩ => SqL.of (mask hD s _ _ eb)) ?_ ?_
  · intro i x H' hx ⟨s, ys, hH, ly, rp⟩
    have hi : i < ks.length := by
      have := (List.getElem?_eq_some_iff.mp hx).1
      rwa [List.length_map] at this
    have ex : x = .int (ks[i] : Nat) := by
      rw [List.getElem?_map, List.getElem?_eq_getElem hi] at hx
      exact (Option.some.inj hx).symm
    subst ex
    have sm := mask hD s
    have hkx := hk _ (List.getElem_mem hi)
    have e1 := List.getElem?_eq_getElem hkx
    obtain ⟨d, hd1, rd⟩ := ra.get e1
    refine ⟨hw _, tyes (he _ _ e1 H' _ sm ⟨ys, hH, line_lt (by omega), mask_upd hD sm, ys ++ [xs[ks[i]]], upd_same, by rw [List.length_append, ly]; rfl, ?_⟩)⟩
    rw [take_more (List.getElem?_eq_getElem hi), pick_cons _ hd1]
    exact rp.app (.cons rd .nil)
  · intro H' ⟨s, ys, hH, ly, rp⟩
    rw [List.length_map, List.take_length] at rp
    exact hd H' ys (mask hD s) hH (rp.same (mask hD s))
theorem pick_map {α β : Type} (f : α → β) (l : List α) : ∀ ks : List Nat, pick (l.map f) ks = (pick l ks).map f
  | [] => rfl
  | k :: ks => by
    have ih := pick_map f l ks
    unfold pick at ih ⊢
    rw [List.filterMap_cons, List.filterMap_cons, List.getElem?_map]
    cases l[k]? with
    | none => exact ih
    | some x => show f x :: _ = f x :: _; rw [ih]
theorem in_int (r : Int) : ∀ ns : List Int, inV (.int r) (ns.map V.int) = decide (r ∈ ns)
  | [] => by simp [inV]
  | n :: ns => by
    have ih := in_int r ns
    have e : inV (.int r) ((n :: ns).map V.int) = ((n == r) || inV (.int r) (ns.map V.int)) := rfl
    rw [e, ih]
    by_cases h : r = n
    · subst h; simp
    · have h3 : (n == r) = false := by simpa using (Ne.symm h)
      rw [h3, Bool.false_or]
      by_cases h4 : r ∈ ns
      · rw [decide_eq_true h4, decide_eq_true (List.mem_cons_of_mem _ h4)]
      · rw [decide_eq_false h4, decide_eq_false (fun q => by rcases List.mem_cons.mp q with q | q; exact h q; exact h4 q)]
theorem flat_int (ns : List Int) : (ns.map V.int).all flatV = true := by
  rw [List.all_eq_true]
  intro x hx
  obtain ⟨j, _, rfl⟩ := List.mem_map.mp hx
  rfl
theorem btws_inv {lo hi : Int} : ∀ {ds : List D}, ds.all (isBtw lo hi) = true → ∃ ns : List Int, ds = ns.map D.int
  | [], _ => ⟨[], rfl⟩
  | d :: ds, h => by
    rw [List.all_cons, Bool.and_eq_true] at h
    obtain ⟨ns, rfl⟩ := btws_inv h.2
    obtain ⟨n, rfl⟩ := btw_shape h.1
    exact ⟨n :: ns, rfl⟩
section
variable {P : Program} {w : World} {K : PySem.W.Frag} {mg : Str → Option Value} {base : Heap}
def spDoas (C CW : Addr) : Sp := fun vs H Q _ => ∃ (h pw : Addr) (v2 v3 : V) (n : Int) (rds : List D) (rm tm : List Int) (ls : List Lt) (rows : List (List Int)), vs = [.ref pw, v2, v3] ∧ WebX CW H h pw n rds rm tm ∧ Rp H h v2 (ltsD ls) ∧ Rp H h v3 (rowsD rows) ∧
  ∀ p H', Same H H' → DayX C CW H' h p n rds rm tm (ltsD ls) (rowsD rows) → Q (.ref p) H'
/-- what is left when the numbers ds are taken out -/
def kept (m : Nat) (ds : List D) : List Nat := (List.range m).filter fun (k : Nat) => !decide ((k : Int) ∈ ds.map num)
theorem kept_ints (m : Nat) (ns : List Int) : kept m (ns.map D.int) = (List.range m).filter fun (k : Nat) => !decide ((k : Int) ∈ ns) := by
  unfold kept
  have : (ns.map D.int).map num = ns := by
    rw [List.map_map]
    exact List.map_id' ns
  rw [this]
/-- a list or tuple of things -/
def LtAt (H : Hp) (h : Addr) (v : V) (ds : List D) : Prop := ∃ a xs, v = .ref a ∧ (H a = some (.lst xs) ∨ H a = some (.tup xs)) ∧ xs.length ≤ 1000 ∧ RpA H h xs ds
def isSeq : D → Bool | .tup _ => true | .lst => true | _ => false
def spWithout (C CW CN : Addr) : Sp := fun vs H Q E => ∃ (h p : Addr) (v : V) (n : Int) (rds : List D) (rm tm : List Int) (ls : List Lt) (rows : List (List Int)), vs = [.ref p, v] ∧ DayX C CW H h p n rds rm tm (ltsD ls) (rowsD rows) ∧ rows.length = ls.length ∧ ls.length ≤ 1000 ∧
  ((∃ d, Rp H h v d ∧ isSeq d = false ∧ ∀ H', Same H H' → E (.ref CN) none H') ∨
   ∃ ds, LtAt H h v ds ∧ (ds.all (isBtw 0 ((ls.length : Int) - 1)) = false → ∀ H', Same H H' → E (.ref CN) none H') ∧
     (ds.all (isBtw 0 ((ls.length : Int) - 1)) = true → ∀ p' ks H', Same H H' → (∀ k ∈ ks, k < ls.length) → ks = kept ls.length ds → DayX C CW H' h p' n rds rm tm (ltsD (pick ls ks)) (rowsD (pick rows ks)) → Q (.ref p') H'))
theorem kitSeq (d : D) : PySem.W.kitAny (K := K) (.type (tyOf d)) [.type "list", .type "tuple"] = some (isSeq d) := by
  cases d <;> first
    | exact kitAny_cons (kit_ty (show kitB _ "list" = some false by simp only [tyOf]; decide +kernel)) (fun _ => kitAny_cons (kit_ty (show kitB _ "tuple" = some false by simp only [tyOf]; decide +kernel)) (fun _ => kitAny_nil) (fun z => by cases z)) (fun z => by cases z)
    | exact kitAny_cons (kit_ty (show kitB _ "list" = some false by simp only [tyOf]; decide +kernel)) (fun _ => kitAny_cons (kit_ty (show kitB _ "tuple" = some true by simp only [tyOf]; decide +kernel)) (fun z => by cases z) (fun _ => rfl)) (fun z => by cases z)
    | exact kitAny_cons (kit_ty (show kitB _ "list" = some true by simp only [tyOf]; decide +kernel)) (fun z => by cases z) (fun _ => rfl)
end
end Hc


set_option Elab.async false
set_option linter.all false
set_option maxRecDepth 100000
set_option maxHeartbeats 1000000
set_option autoImplicit false
namespace Hc
open PySem L2
section
variable {P : Program} {w : World} {K : PySem.W.Frag} {mg : Str → Option Value} {base : Heap}
def shL (b : Int) (ls : List Lt) : List Lt := ls.map fun l => (l.1, l.2 + b)
def shR (b : Int) (rows : List (List Int)) : List (List Int) := rows.map fun r => r.map fun x => x + b
def spShifted (C CW CN : Addr) : Sp := fun vs H Q E => ∃ (h p : Addr) (v : V) (d : D) (n : Int) (rds : List D) (rm tm : List Int) (ls : List Lt) (rows : List (List Int)), vs = [.ref p, v] ∧ Rp H h v d ∧ DayX C CW H h p n rds rm tm (ltsD ls) (rowsD rows) ∧ ls.length ≤ 1000 ∧ rows.length ≤ 1000 ∧ (∀ r ∈ rows, r.length ≤ 1000) ∧
  (isInt d = false → ∀ H', Same H H' → E (.ref CN) none H') ∧
  ∀ b, d = .int b → ((∃ l ∈ ls, l.2 + b < 1) → ∀ H', Same H H' → E (.ref CN) none H') ∧ ((∀ l ∈ ls, 1 ≤ l.2 + b) → ∀ p' H', Same H H' → DayX C CW H' h p' n rds rm tm (ltsD (shL b ls)) (rowsD (shR b rows)) → Q (.ref p') H')
end
end Hc


set_option Elab.async false
set_option linter.all false
set_option pp.maxSteps 600
set_option maxRecDepth 100000
set_option maxHeartbeats 4000000
set_option autoImplicit false
namespace Hc
open PySem L2
/-- what a web's parts are -/
structure PartsOk (n : Int) (rds : List D) (rm tm : List Int) : Prop where
  n0 : 2 ≤ n
  n1 : n ≤ 12
  all : rds.all (isBE n) = true
  l1 : 1 ≤ rds.length
  l2 : rds.length ≤ 24
  lr : rm.length = rds.length
  lt : tm.length = rds.length
  br : ∀ x ∈ rm, 1 ≤ x ∧ x ≤ 3
  bt : ∀ x ∈ tm, 1 ≤ x ∧ x ≤ 3
theorem WebF.p {H : Hp} {h : Addr} {v : V} {n : Int} {rds : List D} {rm tm : List Int} (x : WebF H h v n rds rm tm) : PartsOk n rds rm tm := ⟨x.n0, x.n1, x.all, x.l1, x.l2, x.lr, x.lt, x.br, x.bt⟩
theorem PartsOk.f {H : Hp} {h : Addr} {v : V} {n : Int} {rds : List D} {rm tm : List Int} (x : PartsOk n rds rm tm) (r : Rp H h v (.tup [.int n, .tup rds, .tup (rm.map D.int), .tup (tm.map D.int)])) : WebF H h v n rds rm tm := ⟨r, x.n0, x.n1, x.all, x.l1, x.l2, x.lr, x.lt, x.br, x.bt⟩
theorem be_wide {n m : Int} (h : n ≤ m) {rds : List D} (e : rds.all (isBE n) = true) : rds.all (isBE m) = true := by
  rw [List.all_eq_true] at e ⊢
  intro d hd
  obtain ⟨a, b, rfl, h1, h2, h3, h4, h5⟩ := be_full (e d hd)
  exact be_of h1 (by omega) h3 (by omega) h5
def cutD (ds : List D) (lo hi : Option Int) : List D := (ds.drop (HT.sIx ds.length 0 lo)).take (HT.sIx ds.length ds.length hi - HT.sIx ds.length 0 lo)
theorem slA_ex {K : PySem.W.Frag} {H : Hp} {h c : Addr} {x : V} {lo hi : Option Int} {Q : VK} {ds : List D} (hA : HandAt H h c) (r : Rp H h x (.tup ds))
    (k : ∀ v H', Same H H' → HandAt H' h c → Rp H' h v (.tup (cutD ds lo hi)) → Q v H') : rSlA K x lo hi H Q := by
  obtain ⟨a, xs, rfl, e, z, ra⟩ := tup_inv r
  have l := ra.len
  refine ⟨a, xs, rfl, SqT.of e, fun hw => ?_, fun _ p hp => ?_⟩
  · rw [l] at hw
    have : cutD ds lo hi = ds := by
      unfold cutD
      rw [hw.1, hw.2, List.drop_zero, Nat.sub_zero, List.take_length]
    have k' := k (.ref a) H (Same.refl _) hA
    rw [this] at k'
    exact k' r
  · obtain ⟨s2, e2, n2, n3, hA2⟩ := new_facts (o := .tup (cutV xs lo hi)) hA hp rfl
    refine k _ _ s2 hA2 (.tup e2 (Nat.le_trans (cutV_length _ _ _) z) ?_)
    have : RpA H h (cutV xs lo hi) (cutD ds lo hi) := by
      unfold cutV cutD
      rw [l]
      exact RpA.take _ (RpA.drop _ ra)
    exact this.same s2
theorem cutD_last {ds : List D} : cutD ds none (some (-1)) = ds.take (ds.length - 1) := by
  have s1 : HT.sIx ds.length 0 none = 0 := rfl
  have s2 : HT.sIx ds.length ds.length (some (-1)) = ds.length - 1 := by
    show (if (-1 : Int) < 0 then ((-1 : Int) + (ds.length : Int)).toNat else min (-1 : Int).toNat ds.length) = _
    rw [if_pos (by decide)]; omega
  unfold cutD
  rw [s1, s2, List.drop_zero, Nat.sub_zero]
theorem cutD_to {ds : List D} {k : Nat} (h : k ≤ ds.length) : cutD ds none (some (k : Int)) = ds.take k := by
  have s1 : HT.sIx ds.length 0 none = 0 := rfl
  have s2 : HT.sIx ds.length ds.length (some (k : Int)) = k := by
    show (if (k : Int) < 0 then ((k : Int) + (ds.length : Int)).toNat else min (k : Int).toNat ds.length) = _
    rw [if_neg (by omega)]; omega
  unfold cutD
  rw [s1, s2, List.drop_zero, Nat.sub_zero]
theorem cutD_from {ds : List D} {k : Nat} (h : k ≤ ds.length) : cutD ds (some (k : Int)) none = ds.drop k := by
  have s1 : HT.sIx ds.length 0 (some (k : Int)) = k := by
    show (if (k : Int) < 0 then ((k : Int) + (ds.length : Int)).toNat else min (k : Int).toNat ds.length) = _
    rw [if_neg (by omega)]; omega
  have s2 : HT.sIx ds.length ds.length none = ds.length := rfl
  unfold cutD
  rw [s1, s2]
  exact List.take_of_length_le (by rw [List.length_drop]; exact Nat.le_refl _)
theorem at_ints {ns : List Int} {d : Int} (d0 : 0 ≤ d) (d1 : d < (ns.length : Nat)) : ∃ x : Int, atI (ns.map V.int) d = some (.int x) := by
  obtain ⟨j, rfl⟩ := Int.eq_ofNat_of_zero_le d0
  have hj : j < ns.length := by omega
  exact ⟨ns[j], atI_nat (by rw [List.getElem?_map, List.getElem?_eq_getElem hj]; rfl)⟩
/-- all but what stands at A -/
def Msk (A : Addr) (H : Hp) : Hp := fun b => if b = A then none else H b
theorem Msk.inv {A : Addr} {H : Hp} {b : Addr} {o : HO} (e : Msk A H b = some o) : b ≠ A ∧ H b = some o := by
  unfold Msk at e
  by_cases q : b = A
  · rw [if_pos q] at e; cases e
  · rw [if_neg q] at e; exact ⟨q, e⟩
theorem Msk.mk {A : Addr} {H : Hp} {b : Addr} {o : HO} (q : b ≠ A) (e : H b = some o) : Msk A H b = some o := by
  unfold Msk
  rw [if_neg q]; exact e
theorem Msk.same (A : Addr) (H : Hp) : Same (Msk A H) H := fun b o e => (Msk.inv e).2
theorem Msk.upd {A : Addr} {H H' : Hp} {o : HO} (s : Same (Msk A H) H') : Same (Msk A H) (Msk A (L2.upd H' A o)) := fun b u e => by
  have q := (Msk.inv e).1
  refine Msk.mk q ?_
  rw [upd_ne q]
  exact s _ _ e
theorem Msk.mono {A : Addr} {H H' : Hp} (s : Same H H') : Same (Msk A H) (Msk A H') := fun b u e => Msk.mk (Msk.inv e).1 (s _ _ (Msk.inv e).2)
theorem Msk.of {A : Addr} {H H' : Hp} (hA : H A = none) (s : Same H H') : Same H (Msk A H') := fun b u e => Msk.mk (ne_of_none e hA) (s _ _ e)
theorem Msk.upd' {A : Addr} {H H' : Hp} {o : HO} (s : Same H (Msk A H')) : Same H (Msk A (L2.upd H' A o)) := fun b u e => by
  have q := Msk.inv (s _ _ e)
  refine Msk.mk q.1 ?_
  rw [upd_ne q.1]
  exact q.2
theorem atI_end {xs : List V} (h : 0 < xs.length) : atI xs (-1) = xs[xs.length - 1]? := by
  unfold atI
  have : ixN xs.length (-1) = some (xs.length - 1) := by
    unfold ixN
    rw [if_neg (by decide), if_pos (by omega)]
    congr 1
    omega
  rw [this]; rfl
theorem NL.msk {H : Hp} {A : Addr} {zs : List V} (e : H A = some (.lst zs)) : NL H (Msk A H) := fun b o q n => Msk.mk (fun z => by subst z; rw [e] at q; cases q; exact n _ rfl) q
/-! ### days cut, turned about, moved -/
structure HQ (tm rm : List Int) (ls : List Lt) (rows : List (List Int)) : Prop where
  len : rows.length = ls.length
  one : ∀ (k : Nat) (l : Lt) (r : List Int), ls[k]? = some l → rows[k]? = some r → r.length = l.1.length ∧ EarlyOk tm l r
  full : NotFull rm ls rows
theorem HrOk.q {rm tm : List Int} {ls : List Lt} {rows : List (List Int)} (x : HrOk rm tm ls rows) : HQ tm rm ls rows := ⟨x.len, x.one, x.full⟩
theorem HQ.ok {rds : List D} {rm tm : List Int} {ls : List Lt} {rows : List (List Int)} (x : HQ tm rm ls rows) (o : LsOk rds ls) (l60 : ls.length ≤ 60) (hm : rm.length = rds.length) : DayOk rds rm tm ls rows := by
  have ln : LenOk ls rows := ⟨x.len, fun k l r e1 e2 => (x.one k l r e1 e2).1⟩
  refine ⟨o, l60, ln, ?_, full_ok (fun l hl j hj => by rw [hm]; exact (o.h l hl).2.2.1 j hj) x.full⟩
  exact early_ok ln fun k l r e1 e2 => (x.one k l r e1 e2).2
theorem zip_take {α β : Type} : ∀ (a : List α) (b : List β) (n : Nat), (a.take n).zip (b.take n) = (a.zip b).take n
  | [], _, n => by simp
  | _ :: _, [], n => by cases n <;> simp
  | _ :: a, _ :: b, 0 => by simp
  | x :: a, y :: b, n + 1 => by
    rw [List.take_succ_cons, List.take_succ_cons, List.zip_cons_cons, List.zip_cons_cons, List.take_succ_cons, zip_take a b n]
theorem zip_rev {α β : Type} (a : List α) (b : List β) (h : b.length = a.length) : a.reverse.zip b.reverse = (a.zip b).reverse := by
  refine List.ext_getElem? fun i => ?_
  have lz : (a.zip b).length = a.length := by rw [List.length_zip]; omega
  by_cases hi : i < a.length
  · rw [List.getElem?_zip_eq_some.mpr (⟨?_, ?_⟩ : a.reverse[i]? = some (a[a.length - 1 - i]'(by omega), b[a.length - 1 - i]'(by omega)).1 ∧ b.reverse[i]? = some (a[a.length - 1 - i]'(by omega), b[a.length - 1 - i]'(by omega)).2)]
    · rw [List.getElem?_reverse (by omega), lz, List.getElem?_eq_getElem (by omega), List.getElem_zip]
    · rw [List.getElem?_reverse hi, List.getElem?_eq_getElem (by omega)]
    · rw [List.getElem?_reverse (by omega), List.getElem?_eq_getElem (by omega)]
      congr 1
      congr 1
      omega
  · rw [List.getElem?_eq_none (by rw [List.length_zip, List.length_reverse]; omega), List.getElem?_eq_none (by rw [List.length_reverse]; omega)]
theorem LsOk.take {rds : List D} {ls : List Lt} (o : LsOk rds ls) (n : Nat) : LsOk rds (ls.take n) := ⟨fun l hl => o.h l (List.mem_of_mem_take hl)⟩
theorem LsOk.rev {rds : List D} {ls : List Lt} (o : LsOk rds ls) : LsOk rds ls.reverse := ⟨fun l hl => o.h l (List.mem_reverse.mp hl)⟩
theorem HQ.take {tm rm : List Int} {ls : List Lt} {rows : List (List Int)} (x : HQ tm rm ls rows) (n : Nat) : HQ tm rm (ls.take n) (rows.take n) := by
  refine ⟨by rw [List.length_take, List.length_take, x.len], fun k l r e1 e2 => ?_, fun road t hr => ?_⟩
  · have f : ∀ {α : Type} {xs : List α} {y : α}, (xs.take n)[k]? = some y → xs[k]? = some y := fun {α xs y} e => by
      rw [List.getElem?_take] at e
      by_cases q : k < n
      · rwa [if_pos q] at e
      · rw [if_neg q] at e; cases e
    exact x.one k l r (f e1) (f e2)
  · have := x.full road t hr
    have c : (es (ls.take n) (rows.take n)).count (road, t) ≤ (es ls rows).count (road, t) := by
      rw [es_flat, es_flat, zip_take]
      conv => rhs; rw [← List.take_append_drop n (ls.zip rows), List.flatMap_append, List.count_append]
      exact Nat.le_add_right _ _
    omega
theorem HQ.rev {tm rm : List Int} {ls : List Lt} {rows : List (List Int)} (x : HQ tm rm ls rows) : HQ tm rm ls.reverse rows.reverse := by
  refine ⟨by rw [List.length_reverse, List.length_reverse, x.len], fun k l r e1 e2 => ?_, fun road t hr => ?_⟩
  · have hk : k < ls.length := by
      have := (List.getElem?_eq_some_iff.mp e1).1
      rwa [List.length_reverse] at this
    rw [List.getElem?_reverse hk] at e1
    rw [List.getElem?_reverse (by rw [x.len]; exact hk), x.len] at e2
    exact x.one _ l r e1 e2
  · have := x.full road t hr
    have c : (es ls.reverse rows.reverse).count (road, t) = (es ls rows).count (road, t) := by
      rw [es_flat, es_flat, zip_rev _ _ x.len]
      exact ((List.reverse_perm _).flatMap_right _).count_eq _
    omega
theorem early_pos {tm : List Int} {l : Lt} {r : List Int} (e : EarlyOk tm l r) (ht : ∀ y ∈ tm, 0 ≤ y) (hc : 0 ≤ l.2) : ∀ j, j < r.length → 0 ≤ r.getD j 0 := by
  intro j
  induction j with
  | zero =>
    intro hj
    have := e 0 hj
    unfold nextAt at this
    rw [if_pos (by simp)] at this
    omega
  | succ j ih =>
    intro hj
    have h1 := ih (by omega)
    have h2 := e (j + 1) hj
    unfold nextAt at h2
    rw [if_neg (by rw [List.length_take]; omega)] at h2
    have l1 : (r.take (j + 1)).length - 1 = j := by rw [List.length_take]; omega
    rw [l1] at h2
    have g : (r.take (j + 1)).getD j 0 = r.getD j 0 := by
      rw [List.getD_eq_getElem?_getD, List.getD_eq_getElem?_getD, List.getElem?_take, if_pos (by omega)]
    rw [g] at h2
    have tz : 0 ≤ tm.getD (l.1.getD j 0) 0 := by
      rw [List.getD_eq_getElem?_getD]
      cases q : tm[l.1.getD j 0]? with
      | none => exact Int.le_refl 0
      | some y => exact ht y (List.mem_of_getElem? q)
    omega
/-! ### numbers -/
theorem kept_nat (m : Nat) (ns : List Nat) : kept m (ns.map fun j => D.int (j : Nat)) = (List.range m).filter fun k => !decide (k ∈ ns) := by
  unfold kept
  have e : (ns.map fun j => D.int (j : Nat)).map num = ns.map fun (j : Nat) => (j : Int) := by rw [List.map_map]; rfl
  rw [e]
  refine List.filter_congr fun k _ => ?_
  congr 1
  refine decide_eq_decide.mpr ⟨fun h => ?_, fun h => List.mem_map.mpr ⟨k, h, rfl⟩⟩
  obtain ⟨j, hj, e⟩ := List.mem_map.mp h
  have : j = k := by omega
  rw [← this]; exact hj
theorem kept_more {m : Nat} {ns ms : List Nat} (h : ∀ x ∈ ms, x ∈ ns) : (List.range m).filter (fun k => !decide (k ∈ ns ++ ms)) = (List.range m).filter fun k => !decide (k ∈ ns) := by
  refine List.filter_congr fun k _ => ?_
  congr 1
  refine decide_eq_decide.mpr ⟨fun z => ?_, fun z => List.mem_append_left _ z⟩
  rcases List.mem_append.mp z with z | z
  · exact z
  · exact h k z
theorem range_cut (m k : Nat) : (List.range (m + k)).filter (fun j => !decide (j ∈ List.range m)) = (List.range k).map (m + ·) := by
  rw [List.range_add, List.filter_append]
  have h1 : (List.range m).filter (fun j => !decide (j ∈ List.range m)) = [] := by
    rw [List.filter_eq_nil_iff]
    intro j hj
    rw [decide_eq_true hj]; decide
  have h2 : ((List.range k).map (m + ·)).filter (fun j => !decide (j ∈ List.range m)) = (List.range k).map (m + ·) := by
    rw [List.filter_eq_self]
    intro j hj
    obtain ⟨i, _, rfl⟩ := List.mem_map.mp hj
    rw [decide_eq_false (fun z => by have := List.mem_range.mp z; omega)]; rfl
  rw [h1, h2, List.nil_append]
theorem pick_drop {α : Type} (a b : List α) : pick (a ++ b) ((List.range b.length).map (a.length + ·)) = b := by
  unfold pick
  rw [List.filterMap_map]
  have : ∀ (c : List α) (k : Nat), (∀ i, i < c.length → (a ++ b)[a.length + (k + i)]? = c[i]?) → (List.range' k c.length).filterMap ((fun k => (a ++ b)[k]?) ∘ (a.length + ·)) = c := by
    intro c
    induction c with
    | nil => intro k _; rfl
    | cons x c ih =>
      intro k h
      rw [List.length_cons, List.range'_succ, List.filterMap_cons]
      have h0 := h 0 (by simp)
      rw [Nat.add_zero] at h0
      show (match (a ++ b)[a.length + k]? with | none => _ | some y => y :: _) = _
      rw [h0]
      show x :: _ = _
      rw [ih (k + 1) fun i hi => by
        have := h (i + 1) (by simp; omega)
        rw [show k + 1 + i = k + (i + 1) by omega, this]; rfl]
  rw [List.range_eq_range']
  refine this b 0 fun i hi => ?_
  rw [List.getElem?_append_right (by omega)]
  congr 1
  omega
theorem shL_back (b : Int) (ls : List Lt) : shL (0 - b) (shL b ls) = ls := by
  unfold shL
  rw [List.map_map]
  refine (List.map_congr_left fun l _ => ?_).trans (List.map_id ls)
  show (l.1, l.2 + b + (0 - b)) = l
  rw [show l.2 + b + (0 - b) = l.2 by omega]
theorem shR_back (b : Int) (rows : List (List Int)) : shR (0 - b) (shR b rows) = rows := by
  unfold shR
  rw [List.map_map]
  refine (List.map_congr_left fun r _ => ?_).trans (List.map_id rows)
  show (r.map fun x => x + b).map (fun x => x + (0 - b)) = r
  rw [List.map_map]
  refine (List.map_congr_left fun x _ => ?_).trans (List.map_id r)
  show x + b + (0 - b) = x
  omega
theorem LsOk.app {rds : List D} {ls ls' : List Lt} (a : LsOk rds ls) (b : LsOk rds ls') : LsOk rds (ls ++ ls') := ⟨fun l hl => by
  rcases List.mem_append.mp hl with h | h
  · exact a.h l h
  · exact b.h l h⟩
theorem LenOk.app {ls ls' : List Lt} {rows rows' : List (List Int)} (a : LenOk ls rows) (b : LenOk ls' rows') : LenOk (ls ++ ls') (rows ++ rows') := by
  refine ⟨by rw [List.length_append, List.length_append, a.1, b.1], fun k l r e1 e2 => ?_⟩
  by_cases h : k < ls.length
  · rw [List.getElem?_append_left h] at e1
    rw [List.getElem?_append_left (by rw [a.1]; exact h)] at e2
    exact a.2 k l r e1 e2
  · rw [List.getElem?_append_right (by omega)] at e1
    rw [List.getElem?_append_right (by rw [a.1]; omega), a.1] at e2
    exact b.2 _ l r e1 e2
theorem es_app {ls ls' : List Lt} {rows rows' : List (List Int)} (h : rows.length = ls.length) : es (ls ++ ls') (rows ++ rows') = es ls rows ++ es ls' rows' := by
  rw [es_flat, es_flat, es_flat, List.zip_append (by omega), List.flatMap_append]
theorem LsOk.sh {rds : List D} {ls : List Lt} {b : Int} (o : LsOk rds ls) (b0 : 0 ≤ b) (b1 : ∀ l ∈ ls, l.2 + b ≤ 1000000) : LsOk rds (shL b ls) := ⟨fun l hl => by
  obtain ⟨l0, h0, rfl⟩ := List.mem_map.mp hl
  obtain ⟨h1, h2, h3, h4, h5, h6⟩ := o.h l0 h0
  exact ⟨h1, h2, h3, h4, by show 1 ≤ l0.2 + b; omega, b1 l0 h0⟩⟩
theorem LenOk.sh {ls : List Lt} {rows : List (List Int)} (b : Int) (x : LenOk ls rows) : LenOk (shL b ls) (shR b rows) := by
  refine ⟨by unfold shL shR; rw [List.length_map, List.length_map, x.1], fun k l r e1 e2 => ?_⟩
  unfold shL at e1
  unfold shR at e2
  rw [List.getElem?_map] at e1 e2
  cases g1 : ls[k]? with
  | none => rw [g1] at e1; cases e1
  | some l0 =>
    cases g2 : rows[k]? with
    | none => rw [g2] at e2; cases e2
    | some r0 =>
      rw [g1] at e1
      rw [g2] at e2
      obtain rfl := (Option.some.inj e1).symm
      obtain rfl := (Option.some.inj e2).symm
      rw [List.length_map]
      exact x.2 k l0 r0 g1 g2
theorem es_sh (b : Int) : ∀ (ls : List Lt) (rows : List (List Int)), es (shL b ls) (shR b rows) = (es ls rows).map fun e => (e.1, e.2 + b)
  | [], _ => rfl
  | _ :: _, [] => rfl
  | l :: ls, r :: rows => by
    show es ((l.1, l.2 + b) :: shL b ls) ((r.map fun x => x + b) :: shR b rows) = _
    rw [es_cons, es_cons, List.map_append, es_sh b ls rows]
    congr 1
    show l.1.zip (r.map fun x => x + b) = (l.1.zip r).map fun e => (e.1, e.2 + b)
    rw [List.zip_map_right]; rfl
theorem count_sh (b : Int) (E : List (Nat × Int)) (x : Nat × Int) : (E.map fun e => (e.1, e.2 + b)).count x = E.count (x.1, x.2 - b) := by
  rw [List.count, List.countP_map, List.count]
  congr 1
  funext e
  show ((e.1, e.2 + b) == x) = (e == (x.1, x.2 - b))
  rw [Bool.eq_iff_iff]
  simp only [beq_iff_eq, Prod.ext_iff]
  constructor
  · rintro ⟨h1, h2⟩; exact ⟨h1, by omega⟩
  · rintro ⟨h1, h2⟩; exact ⟨h1, by omega⟩
/-- two days far apart do not meet -/
theorem far_full {rm : List Int} {ls ls' : List Lt} {rows rows' : List (List Int)} (ln : rows.length = ls.length) (f : NotFull rm ls rows) (f' : NotFull rm ls' rows') (mx : MaxAt rows 399) (mn : ∀ r ∈ rows', ∀ y ∈ r, 0 ≤ y) : NotFull rm (ls ++ shL 500 ls') (rows ++ shR 500 rows') := fun road t hr => by
  rw [es_app ln, List.count_append, es_sh, count_sh]
  have h1 := f road t hr
  have h2 := f' road (t - 500) hr
  by_cases g : t ≤ 399
  · have z : (es ls' rows').count (road, t - 500) = 0 := by
      rw [List.count_eq_zero]
      intro hm
      obtain ⟨r, h3, h4⟩ := mem_es hm
      have := mn r h3 _ h4
      have : 0 ≤ t - 500 := this
      omega
    show (((es ls rows).count (road, t) + (es ls' rows').count (road, t - 500) : Nat) : Int) ≤ _
    rw [z]; omega
  · have z := count_zero (ls := ls) mx (road := road) (t := t) (by omega)
    show (((es ls rows).count (road, t) + (es ls' rows').count (road, t - 500) : Nat) : Int) ≤ _
    rw [z]; omega
section
variable {P : Program} {w : World} {K : PySem.W.Frag} {mg : Str → Option Value} {base : Heap}
/-- Web(..) of right parts -/
theorem newW (T : Tx K mg) {H : Hp} {h : Addr} {v2 v3 v4 : V} {n : Int} {rds : List D} {rm tm : List Int} {Q : VK} {E : XK} (p : PartsOk n rds rm tm) (r2 : Rp H h v2 (.tup rds)) (r3 : Rp H h v3 (.tup (rm.map D.int))) (r4 : Rp H h v4 (.tup (tm.map D.int)))
    (k : ∀ p H', Same H H' → WebX T.Web.C H' h p n rds rm tm → Q (.ref p) H') :
    ∀ x dx, H x = none → H dx = none → dx ≠ x → spWeb T.Web.C T.x_BadWeb.C (.ref x :: ([.int n, v2, v3, v4] ++ [])) (upd (upd H dx (.own x)) x (.ins T.Web.C dx [])) (fun v H2 => v = .non ∧ Q (.ref x) H2) E := by
  intro x dx hx hdx nx
  have sx : Same H (upd (upd H dx (.own x)) x (.ins T.Web.C dx [])) := fun b o q => by
    rw [upd_ne (ne_of_none q hx), upd_ne (ne_of_none q hdx)]; exact q
  have cnt : ∀ ns : List Int, ns.length = rds.length → (∀ x ∈ ns, 1 ≤ x ∧ x ≤ 3) → areBtw (rds.length : Nat) 1 3 (.tup (ns.map Hc.D.int)) = true := fun ns h1 h2 => by
    rw [areBtw_tup, List.length_map, decide_eq_true (show ((ns.length : Nat) : Int) = (rds.length : Nat) by omega), Bool.true_and, List.all_eq_true]
    intro d hd
    obtain ⟨x, hx, rfl⟩ := List.mem_map.mp hd
    exact btw_of (h2 x hx).1 (h2 x hx).2
  have hdue : due (.int n) (.tup rds) (.tup (rm.map Hc.D.int)) (.tup (tm.map Hc.D.int)) = none := by
    have q1 : ¬ isBtw 2 12 (.int n) = false := by rw [btw_of p.n0 p.n1]; decide
    have q2 : ¬ areRoads (num (.int n)) (.tup rds) = false := by
      show ¬ areRoads n (.tup rds) = false
      rw [areRoads_tup, decide_eq_true p.l1, decide_eq_true p.l2, p.all]; decide
    have q3 : ¬ areBtw (dlen (.tup rds)) 1 3 (.tup (rm.map Hc.D.int)) = false := by
      show ¬ areBtw (rds.length : Nat) 1 3 (.tup (rm.map Hc.D.int)) = false
      rw [cnt rm p.lr p.br]; decide
    have q4 : ¬ areBtw (dlen (.tup rds)) 1 3 (.tup (tm.map Hc.D.int)) = false := by
      show ¬ areBtw (rds.length : Nat) 1 3 (.tup (tm.map Hc.D.int)) = false
      rw [cnt tm p.lt p.bt]; decide
    exact (if_neg q1).trans ((if_neg q2).trans ((if_neg q3).trans (if_neg q4)))
  refine ⟨h, x, dx, .int n, _, _, _, .int n, .tup rds, .tup (rm.map Hc.D.int), .tup (tm.map Hc.D.int), rfl, upd_same, .int n, r2.same sx, r3.same sx, r4.same sx, fun _ H7 b7 e7 => ⟨rfl, ?_⟩, fun part hd => by rw [hdue] at hd; cases hd⟩
  have s7 : Same H H7 := fun b o q => b7 _ _ (sx _ _ q) (ne_of_none q hx)
  exact k x H7 s7 ⟨⟨dx, _, _, _, e7, r2.same s7, r3.same s7, r4.same s7⟩, ⟨dx, _, _, _, _, e7, r2.same s7, r3.same s7, r4.same s7⟩, p.all, p.l1, p.l2, p.lr, p.lt, p.br, p.bt⟩
/-- Web(v[0], v[1], v[2], v[3]) -/
theorem mkW (T : Tx K mg) {σ : St} {j : Nat} {H : Hp} {h : Addr} {v : V} {n : Int} {rds : List D} {rm tm : List Int} {Q : VK} {E : XK} (hj : σ[j]? = some (some v)) (W : WebF H h v n rds rm tm)
    (k : ∀ p H', Same H H' → WebX T.Web.C H' h p n rds rm tm → Q (.ref p) H') :
    tMake T.Web.C (spWeb T.Web.C T.x_BadWeb.C) [] E (tCons (tOp (rIxT K) (tVar j) (tC (.int 0))) (tCons (tOp (rIxT K) (tVar j) (tC (.int 1))) (tCons (tOp (rIxT K) (tVar j) (tC (.int 2))) (tCons (tOp (rIxT K) (tVar j) (tC (.int 3))) tNil)))) σ H Q := by
  have p := W.p
  obtain ⟨pw, ys, rfl, ew, _, ra⟩ := tup_inv W.r
  cases ra with
  | cons r1 ra =>
  cases ra with
  | cons r2 ra =>
  cases ra with
  | cons r3 ra =>
  cases ra with
  | cons r4 ra =>
  cases ra
  cases r1
  exact ⟨_, hj, pw, _, 0, _, rfl, rfl, SqT.of ew, atI_nat (j := 0) rfl, _, hj, pw, _, 1, _, rfl, rfl, SqT.of ew, atI_nat (j := 1) rfl, _, hj, pw, _, 2, _, rfl, rfl, SqT.of ew, atI_nat (j := 2) rfl, _, hj, pw, _, 3, _, rfl, rfl, SqT.of ew, atI_nat (j := 3) rfl, newW T p r2 r3 r4 k⟩
/-- Day(..) of right parts -/
theorem newD (T : Tx K mg) {H : Hp} {h pw : Addr} {v2 v3 : V} {n : Int} {rds : List D} {rm tm : List Int} {ls : List Lt} {rows : List (List Int)} {Q : VK} {E : XK} (W : WebX T.Web.C H h pw n rds rm tm) (r2 : Rp H h v2 (ltsD ls)) (r3 : Rp H h v3 (rowsD rows)) (ok : DayOk rds rm tm ls rows)
    (k : ∀ p H', Same H H' → DayX T.Day.C T.Web.C H' h p n rds rm tm (ltsD ls) (rowsD rows) → Q (.ref p) H') :
    ∀ x dx, H x = none → H dx = none → dx ≠ x → spDay T.Day.C T.Web.C T.x_BadDay.C (.ref x :: ([.ref pw, v2, v3] ++ [])) (upd (upd H dx (.own x)) x (.ins T.Day.C dx [])) (fun v H2 => v = .non ∧ Q (.ref x) H2) E := by
  intro x dx hx hdx nx
  have sx : Same H (upd (upd H dx (.own x)) x (.ins T.Day.C dx [])) := fun b o q => by
    rw [upd_ne (ne_of_none q hx), upd_ne (ne_of_none q hdx)]; exact q
  refine ⟨h, x, dx, pw, v2, v3, ltsD ls, rowsD rows, n, rds, rm, tm, rfl, upd_same, W.w.same sx, r2.same sx, r3.same sx, fun ls' rows' _ _ _ H7 b7 e7 => ⟨rfl, ?_⟩, fun part hd => absurd hd ok.not⟩
  have s7 : Same H H7 := fun b o q => b7 _ _ (sx _ _ q) (ne_of_none q hx)
  have l1 : (dayF (.ref pw) v2 v3).length < 10 := putF_lt (n := 9) (putF_lt (n := 8) (putF_lt (n := 7) (by decide)))
  exact k x H7 s7 ⟨⟨dx, _, pw, v2, v3, e7, by omega, dF_w _ _ _, dF_l _ _ _, dF_h _ _ _, W.same s7, r2.same s7, r3.same s7⟩, isIn_lts ls, isIn_rows rows⟩
/-- Day(..), its arguments read -/
theorem mkD (T : Tx K mg) {σ : St} {t : TA} {H : Hp} {h pw : Addr} {v2 v3 : V} {n : Int} {rds : List D} {rm tm : List Int} {ls : List Lt} {rows : List (List Int)} {Q : VK} {E : XK} (ht : ∀ R : List V → Hp → Prop, R [.ref pw, v2, v3] H → t σ H R) (W : WebX T.Web.C H h pw n rds rm tm) (r2 : Rp H h v2 (ltsD ls)) (r3 : Rp H h v3 (rowsD rows)) (ok : DayOk rds rm tm ls rows)
    (k : ∀ p H', Same H H' → DayX T.Day.C T.Web.C H' h p n rds rm tm (ltsD ls) (rowsD rows) → Q (.ref p) H') : tMake T.Day.C (spDay T.Day.C T.Web.C T.x_BadDay.C) [] E t σ H Q := ht _ (newD T W r2 r3 ok k)
end
/-- t + u of things, in a heap without a hand -/
theorem catA_pl {K : PySem.W.Frag} {H : Hp} {h : Addr} {x y : V} {Q : VK} {ds es : List D} (r1 : Rp H h x (.tup ds)) (r2 : Rp H h y (.tup es)) (z : ds.length + es.length ≤ 50000)
    (k : ∀ v H', Same H H' → Rp H' h v (.tup (ds ++ es)) → Q v H') : rCatA K x y H Q := by
  obtain ⟨a, xs, rfl, e1, z1, ra⟩ := tup_inv r1
  obtain ⟨b, ys, rfl, e2, z2, rb⟩ := tup_inv r2
  have l1 := ra.len
  have l2 := rb.len
  refine ⟨a, b, xs, ys, rfl, rfl, SqT.of e1, SqT.of e2, line_le (by omega), fun ex => ?_, fun _ ey => ?_, fun _ _ p hp => ?_⟩
  · subst ex
    cases ra
    exact k _ _ (Same.refl _) r2
  · subst ey
    cases rb
    refine k _ _ (Same.refl _) ?_
    rw [List.append_nil]
    exact r1
  · have s3 := same_upd (o := .tup (xs ++ ys)) hp
    exact k _ _ s3 (.tup upd_same (by rw [List.length_append]; omega) ((ra.app rb).same s3))
end Hc


set_option Elab.async false
set_option linter.all false
set_option pp.maxSteps 600
set_option maxRecDepth 100000
set_option maxHeartbeats 4000000
set_option autoImplicit false
namespace Hc
open PySem L2
section
variable {P : Program} {w : World} {K : PySem.W.Frag} {mg : Str → Option Value} {base : Heap}
def spLaid (C CW CO : Addr) : Sp := fun vs H Q E => ∃ (h p q : Addr) (n n' : Int) (rds rds' : List D) (rm tm rm' tm' : List Int) (ls ls' : List Lt) (rows rows' : List (List Int)), vs = [.ref p, .ref q] ∧ DayX C CW H h p n rds rm tm (ltsD ls) (rowsD rows) ∧ DayX C CW H h q n' rds' rm' tm' (ltsD ls') (rowsD rows') ∧
  (¬ (n = n' ∧ rds = rds' ∧ rm = rm' ∧ tm = tm') → ∀ H', Same H H' → E (.ref CO) none H') ∧
  ((n = n' ∧ rds = rds' ∧ rm = rm' ∧ tm = tm') → LsOk rds (ls ++ ls') ∧ (ls ++ ls').length ≤ 60 ∧ LenOk (ls ++ ls') (rows ++ rows') ∧ (fullB rm (ls ++ ls') (rows ++ rows') = true → ∀ H', Same H H' → Q .non H') ∧
    (fullB rm (ls ++ ls') (rows ++ rows') = false → ∀ p' H', Same H H' → DayX C CW H' h p' n rds rm tm (ltsD (ls ++ ls')) (rowsD (rows ++ rows')) → Q (.ref p') H'))
end
end Hc


set_option Elab.async false
set_option linter.all false
set_option maxRecDepth 100000
set_option maxHeartbeats 1000000
set_option autoImplicit false
namespace L2
open PySem PySem.Spec PyProof.Rows
section
variable {X : Cx}
/-- l.count(x), items of any depth -/
def rCountD (K : PySem.W.Frag) : V → List V → Hp → VK → Prop := fun x xs H Q => ∃ (a : Addr) (y : V) (d : PyData) (ds : List PyData), x = V.ref a ∧ xs = [y] ∧ Dp K H (V.ref a) (.list ds) ∧ Dp K H y d ∧
  SeqAt.shaped (.list ds) = true ∧ SeqAt.shaped d = true ∧ Q (.int ((ds.countP fun z => PyData.eqv z d : Nat) : Int)) H
theorem mt_countD (hu : X.A.units + 65 < cLine) : MtR X "list.count" (rCountD X.K) := by
  intro pins s σ H x xs v us Q I rx rxs h
  obtain ⟨a, y, d, ds, rfl, rfl, hl, hy, sl, sd, q⟩ := h
  cases rx
  cases rxs with
  | cons ry rt =>
    rename_i uy ut
    cases rt
    obtain ⟨bs, r1⟩ := Dp.reads I d y uy hy ry
    have hxs : PyData.canLayAll0 ds = true := SeqAt.canLay_of_shaped sl
    have hroom : X.A.units + 1 + min (PyData.depthAll ds) d.depth < cLine := room_in_shaped sd hu
    cases hl with
    | lst hs ha =>
      obtain ⟨its, rv, ⟨⟨cls, dd, data, sls⟩, n, ho, hc, hdn, hdt⟩, hlen⟩ := I.list hs
      simp only at hc hdt
      subst hc hdt
      obtain ⟨as, h4⟩ := Dp.readsAll I ds _ its ha rv
      have hmap : its.map (SeqAt.readOf s.heap) = ds := SeqAt.readsAll_map ds its as hxs h4
      refine call_meets PySem.F.slot_list_count ⟨_, ho, rfl⟩ PySem.F.entry_list_count (PySem.F.args_list_count_2 _ _)
        (SeqAt.list_countAt a its.toArray n dd sls uy (fun u => PyData.eqv (SeqAt.readOf s.heap u) d)) ⟨ho, SeqAt.items_eqAt (vs := its.toArray) (show ReadsAll s.heap its.toArray.toList ds as from h4) r1 hxs (SeqAt.canLay_of_shaped sd) hroom, ?_⟩
      have ec : its.toArray.toList.countP (fun u => PyData.eqv (SeqAt.readOf s.heap u) d) = ds.countP fun z => PyData.eqv z d := by
        rw [← hmap, List.countP_map]; rfl
      refine ⟨.int ((ds.countP fun z => PyData.eqv z d : Nat) : Int), H, I.tok _, ⟨s.toks, ?_⟩, q⟩
      show Value.int ((its.toArray.toList.countP (fun u => PyData.eqv (SeqAt.readOf s.heap u) d) : Nat) : Int) s.toks = _
      rw [ec]
end
end L2


set_option Elab.async false
set_option linter.all false
set_option pp.maxSteps 600
set_option maxRecDepth 100000
set_option maxHeartbeats 4000000
set_option autoImplicit false
namespace Hc
open PySem L2
/-- a row of ints as data -/
def rwP (p : List Int) : PyData := .tuple (p.map PyData.int)
section
variable {K : PySem.W.Frag}
theorem dp_ints {H : Hp} : ∀ p : List Int, DpAll K H (p.map V.int) (p.map PyData.int)
  | [] => .nil
  | x :: p => .cons (.int x) (dp_ints p)
theorem dp_row {H : Hp} {t : Addr} {p : List Int} (e : H t = some (.tup (p.map V.int))) : Dp K H (.ref t) (rwP p) := .tup (SqT.of e) (dp_ints p)
theorem lay_ints : ∀ p : List Int, PyData.canLayAll0 (p.map PyData.int) = true ∧ PyData.depthAll (p.map PyData.int) ≤ 1
  | [] => ⟨rfl, Nat.zero_le _⟩
  | x :: p => by
    obtain ⟨h1, h2⟩ := lay_ints p
    refine ⟨?_, ?_⟩
    · show (true && PyData.canLayAll0 (p.map PyData.int)) = true
      rw [h1]; rfl
    · show max (PyData.depth (.int x)) (PyData.depthAll (p.map PyData.int)) ≤ 1
      have : PyData.depth (.int x) ≤ 1 := by simp [PyData.depth]
      omega
theorem lay_row (p : List Int) : (rwP p).canLay0 = true ∧ (rwP p).depth ≤ 2 := by
  obtain ⟨h1, h2⟩ := lay_ints p
  refine ⟨h1, ?_⟩
  show PyData.depthAll (p.map PyData.int) + 1 ≤ 2
  omega
theorem lay_rows : ∀ L : List (List Int), PyData.canLayAll0 (L.map rwP) = true ∧ PyData.depthAll (L.map rwP) ≤ 2
  | [] => ⟨rfl, Nat.zero_le _⟩
  | x :: p => by
    obtain ⟨h1, h2⟩ := lay_rows p
    obtain ⟨h3, h4⟩ := lay_row x
    refine ⟨?_, ?_⟩
    · show ((rwP x).canLay0 && PyData.canLayAll0 (p.map rwP)) = true
      rw [h1, h3]; rfl
    · show max (rwP x).depth (PyData.depthAll (p.map rwP)) ≤ 2
      omega
theorem shaped_row (p : List Int) : SeqAt.shaped (rwP p) = true := by
  have h := lay_row p
  show ((rwP p).canLay0 && decide ((rwP p).depth ≤ 64)) = true
  rw [h.1, decide_eq_true (by omega)]; rfl
theorem shaped_rows (L : List (List Int)) : SeqAt.shaped (.list (L.map rwP)) = true := by
  have h := lay_rows L
  show (PyData.canLayAll0 (L.map rwP) && decide (PyData.depthAll (L.map rwP) + 1 ≤ 64)) = true
  rw [h.1, decide_eq_true (by omega)]; rfl
end
theorem es_snoc {l : Lt} {r : List Int} : ∀ {ls : List Lt} {rows : List (List Int)} {k : Nat}, ls[k]? = some l → rows[k]? = some r → es (ls.take (k + 1)) (rows.take (k + 1)) = es (ls.take k) (rows.take k) ++ l.1.zip r
  | [], _, _, e, _ => by simp at e
  | _ :: _, [], _, _, e => by simp at e
  | a :: ls, b :: rows, 0, e1, e2 => by
    have e1 : a = l := by simpa using e1
    have e2 : b = r := by simpa using e2
    subst e1 e2
    show a.1.zip b ++ es (ls.take 0) (rows.take 0) = [] ++ a.1.zip b
    rw [List.take_zero, List.nil_append]
    show a.1.zip b ++ [] = _
    rw [List.append_nil]
  | a :: ls, b :: rows, k + 1, e1, e2 => by
    have := es_snoc (ls := ls) (rows := rows) (k := k) (by simpa using e1) (by simpa using e2)
    show a.1.zip b ++ es (ls.take (k + 1)) (rows.take (k + 1)) = (a.1.zip b ++ es (ls.take k) (rows.take k)) ++ _
    rw [this, List.append_assoc]
theorem zip_take_succ {w : List Nat} {r : List Int} {p : Nat} (h1 : p < w.length) (h2 : p < r.length) : (w.zip r).take (p + 1) = (w.zip r).take p ++ [(w.getD p 0, r.getD p 0)] := by
  have e : (w.zip r)[p]? = some (w.getD p 0, r.getD p 0) := by
    rw [List.getElem?_zip_eq_some]
    exact ⟨by show w[p]? = some (w.getD p 0); rw [List.getD_eq_getElem?_getD, List.getElem?_eq_getElem h1]; rfl, by show r[p]? = some (r.getD p 0); rw [List.getD_eq_getElem?_getD, List.getElem?_eq_getElem h2]; rfl⟩
  exact take_more e
/-- a list of passings -/
def PsAt (H : Hp) (zs : List V) (L : List (Nat × Int)) : Prop := zs.length = L.length ∧ ∀ (k : Nat) (e : Nat × Int), L[k]? = some e → ∃ c, zs[k]? = some (.ref c) ∧ H c = some (.tup [.int (e.1 : Nat), .int e.2])
theorem PsAt.same {H H' : Hp} {zs : List V} {L : List (Nat × Int)} (x : PsAt H zs L) (s : Same H H') : PsAt H' zs L := ⟨x.1, fun k e he => by
  obtain ⟨c, q1, q2⟩ := x.2 k e he
  exact ⟨c, q1, s _ _ q2⟩⟩
theorem PsAt.snoc {H : Hp} {zs : List V} {L : List (Nat × Int)} {c : Addr} {e : Nat × Int} (x : PsAt H zs L) (h : H c = some (.tup [.int (e.1 : Nat), .int e.2])) : PsAt H (zs ++ [.ref c]) (L ++ [e]) := by
  refine ⟨by rw [List.length_append, List.length_append, x.1]; rfl, fun k e' he => ?_⟩
  by_cases hk : k < L.length
  · rw [List.getElem?_append_left hk] at he
    obtain ⟨c', q1, q2⟩ := x.2 k e' he
    exact ⟨c', by rw [List.getElem?_append_left (by have := x.1; omega)]; exact q1, q2⟩
  · rw [List.getElem?_append_right (by omega)] at he
    have h0 : k - L.length = 0 := by
      have := (List.getElem?_eq_some_iff.mp he).1
      simp at this; omega
    rw [h0] at he
    cases he
    exact ⟨c, by rw [List.getElem?_append_right (by have := x.1; omega), show k - zs.length = 0 by have := x.1; omega]; rfl, h⟩
def psP (e : Nat × Int) : PyData := rwP [((e.1 : Nat) : Int), e.2]
theorem dpl_ps {K : PySem.W.Frag} {H : Hp} : ∀ {L : List (Nat × Int)} {zs : List V}, PsAt H zs L → DpAll K H zs (L.map psP)
  | [], zs, x => by
    have : zs = [] := List.eq_nil_of_length_eq_zero x.1
    subst this
    exact .nil
  | e :: L, zs, x => by
    cases zs with
    | nil => have := x.1; simp at this
    | cons z zs =>
      obtain ⟨c, q1, q2⟩ := x.2 0 e rfl
      have q1 : z = .ref c := by simpa using q1
      subst q1
      exact .cons (dp_row (p := [((e.1 : Nat) : Int), e.2]) q2) (dpl_ps ⟨by have := x.1; simpa using this, fun k e' he => by
        obtain ⟨c, q1, q2⟩ := x.2 (k + 1) e' (by simpa using he)
        exact ⟨c, by simpa using q1, q2⟩⟩)
theorem eqv_ps (a b : Nat × Int) : PyData.eqv (psP a) (psP b) = (a == b) := by
  unfold psP rwP
  simp only [List.map_cons, List.map_nil, PyData.eqv, PyData.eqvAll, Bool.and_true]
  rw [Bool.eq_iff_iff]
  simp only [Bool.and_eq_true, beq_iff_eq, Prod.ext_iff]
  omega
theorem count_ps (L : List (Nat × Int)) (e : Nat × Int) : ((L.map psP).countP fun z => PyData.eqv z (psP e)) = L.count e := by
  rw [List.countP_map, List.count]
  congr 1
  funext a
  exact eqv_ps a e
theorem sh_ps (L : List (Nat × Int)) : SeqAt.shaped (.list (L.map psP)) = true := by
  have := shaped_rows (L.map fun e => [((e.1 : Nat) : Int), e.2])
  rwa [List.map_map] at this
theorem units65 {k : Nat} {A : Around} (r : Room k A) : A.units + 65 < cLine := by have := r.un; omega
section
variable {P : Program} {w : World} {K : PySem.W.Frag} {mg : Str → Option Value} {base : Heap}
def spMadeX (C : Addr) : Sp := fun vs H Q _ => ∃ (h : Addr) (v : V) (n : Int) (rds : List D) (rm tm : List Int), vs = [v] ∧ WebF H h v n rds rm tm ∧ ∀ p H', Same H H' → WebX C H' h p n rds rm tm → Q (.ref p) H'
def spHolds (C CW : Addr) : Sp := fun vs H Q _ => ∃ (h p : Addr) (vl vh : V) (n : Int) (rds : List D) (rm tm : List Int) (dl dh dl' dh' : D), vs = [.ref p, vl, vh] ∧ DayX C CW H h p n rds rm tm dl dh ∧ Rp H h vl dl' ∧ Rp H h vh dh' ∧ isIn 3 dl' = true ∧ isIn 3 dh' = true ∧ ∀ c : Bool, (c = true ↔ (dl = dl' ∧ dh = dh')) → Q (.bl c) H
def spRefused (C CW : Addr) : Sp := fun vs H Q _ => ∃ (h p q : Addr) (n n' : Int) (rds rds' : List D) (rm tm rm' tm' : List Int) (ls ls' : List Lt) (rows rows' : List (List Int)), vs = [.ref p, .ref q] ∧ DayX C CW H h p n rds rm tm (ltsD ls) (rowsD rows) ∧ DayX C CW H h q n' rds' rm' tm' (ltsD ls') (rowsD rows') ∧ ¬ (n = n' ∧ rds = rds' ∧ rm = rm' ∧ tm = tm') ∧ ∀ H', Same H H' → Q (.bl true) H'
def spFits : Sp := fun vs H Q _ => ∃ (h : Addr) (wv vl vh : V) (n : Int) (rds : List D) (rm tm : List Int) (ls : List Lt) (rows : List (List Int)), vs = [wv, vl, vh] ∧ WebF H h wv n rds rm tm ∧ Rp H h vl (ltsD ls) ∧ Rp H h vh (rowsD rows) ∧ LsOk rds ls ∧ LenOk ls rows ∧ ls.length ≤ 60 ∧ ∀ H', Same H H' → Q (.bl (!fullB rm ls rows)) H'
end
end Hc


set_option Elab.async false
set_option linter.all false
set_option pp.maxSteps 600
set_option maxRecDepth 100000
set_option maxHeartbeats 4000000
set_option autoImplicit false
namespace Hc
open PySem L2
theorem flat_nat (ns : List Nat) : (ns.map fun j => V.int (j : Nat)).all flatV = true := by
  rw [List.all_eq_true]
  intro x hx
  obtain ⟨j, _, rfl⟩ := List.mem_map.mp hx
  rfl
theorem in_nat (r : Nat) : ∀ ns : List Nat, inV (.int (r : Nat)) (ns.map fun j => V.int (j : Nat)) = decide (r ∈ ns)
  | [] => by simp [inV]
  | n :: ns => by
    have ih := in_nat r ns
    have e : inV (.int (r : Nat)) ((n :: ns).map fun j => V.int (j : Nat)) = (((n : Int) == (r : Int)) || inV (.int (r : Nat)) (ns.map fun j => V.int (j : Nat))) := rfl
    rw [e, ih]
    by_cases h : r = n
    · subst h; simp
    · have h2 : ¬ ((n : Int) = (r : Int)) := by omega
      have h3 : ((n : Int) == (r : Int)) = false := by simpa using h2
      rw [h3, Bool.false_or]
      by_cases h4 : r ∈ ns
      · rw [decide_eq_true h4, decide_eq_true (List.mem_cons_of_mem _ h4)]
      · rw [decide_eq_false h4, decide_eq_false (fun q => by rcases List.mem_cons.mp q with q | q; exact h q; exact h4 q)]
theorem webF_of4 {H : Hp} {h : Addr} {v : V} {d : D} {towns most : Int} (r : Rp H h v d) (w : WebD towns most d) (ht : towns ≤ 12) (hm : most ≤ 24) : ∃ n rds rm tm, WebF H h v n rds rm tm ∧ (rds.length : Int) ≤ most ∧ n ≤ towns := by
  obtain ⟨n, ds, rm, tm, rfl, h1, h2, h3, h4, h5, h6, h7⟩ := w.ex
  obtain ⟨rs, rfl, r1, r2⟩ := btw_inv h6
  obtain ⟨ts, rfl, t1, t2⟩ := btw_inv h7
  exact ⟨n, ds, rs, ts, ⟨r, h1, by omega, h5, h3, by omega, by omega, by omega, r2, t2⟩, h4, h2⟩
theorem wTot_le {k : Nat} : ∀ {ls : List Lt}, (∀ l ∈ ls, l.1.length ≤ k) → wTot ls ≤ k * ls.length
  | [], _ => Nat.zero_le _
  | l :: ls, h => by
    have h1 := h l (List.mem_cons_self ..)
    have h2 := wTot_le (k := k) (ls := ls) fun x hx => h x (List.mem_cons_of_mem _ hx)
    unfold wTot at h2 ⊢
    rw [List.map_cons, List.sum_cons, List.length_cons, Nat.mul_succ]; omega
/-- what stands in the heap through the law -/
structure Fx (C CW h : Addr) (v : V) (n : Int) (rds : List D) (rm tm : List Int) (pm : Addr) (vl1 vl2 vh1 vh2 : V) (L M N p1 p2 : Addr) (ls1 ls2 : List Lt) (rows1 rows2 : List (List Int)) (H : Hp) : Prop where
  W : WebF H h v n rds rm tm
  X : WebX CW H h pm n rds rm tm
  r1 : Rp H h vl1 (ltsD ls1)
  r2 : Rp H h vl2 (ltsD ls2)
  q1 : Rp H h vh1 (rowsD rows1)
  q2 : Rp H h vh2 (rowsD rows2)
  eL : H L = some (.lst [vl1, vl2])
  eM : H M = some (.lst [vh1, vh2])
  eN : H N = some (.lst [.ref p1, .ref p2])
  O1 : DayX C CW H h p1 n rds rm tm (ltsD ls1) (rowsD rows1)
  O2 : DayX C CW H h p2 n rds rm tm (ltsD ls2) (rowsD rows2)
theorem Fx.same {C CW h : Addr} {v : V} {n : Int} {rds : List D} {rm tm : List Int} {pm : Addr} {vl1 vl2 vh1 vh2 : V} {L M N p1 p2 : Addr} {ls1 ls2 : List Lt} {rows1 rows2 : List (List Int)} {H H' : Hp} (x : Fx C CW h v n rds rm tm pm vl1 vl2 vh1 vh2 L M N p1 p2 ls1 ls2 rows1 rows2 H) (s : Same H H') : Fx C CW h v n rds rm tm pm vl1 vl2 vh1 vh2 L M N p1 p2 ls1 ls2 rows1 rows2 H' :=
  ⟨x.W.nl (NL.of s), x.X.same s, x.r1.same s, x.r2.same s, x.q1.same s, x.q2.same s, s _ _ x.eL, s _ _ x.eM, s _ _ x.eN, x.O1.same s, x.O2.same s⟩
theorem Fx.but {C CW h : Addr} {v : V} {n : Int} {rds : List D} {rm tm : List Int} {pm : Addr} {vl1 vl2 vh1 vh2 : V} {L M N p1 p2 : Addr} {ls1 ls2 : List Lt} {rows1 rows2 : List (List Int)} {H H' : Hp} {c : Addr} (x : Fx C CW h v n rds rm tm pm vl1 vl2 vh1 vh2 L M N p1 p2 ls1 ls2 rows1 rows2 H) (b : But h H H') (p : HandAt H h c) (n1 : L ≠ h) (n2 : M ≠ h) (n3 : N ≠ h) : Fx C CW h v n rds rm tm pm vl1 vl2 vh1 vh2 L M N p1 p2 ls1 ls2 rows1 rows2 H' :=
  ⟨x.W.nl (b.nl p.lst), x.X.nl (b.nl p.lst), x.r1.monoB b p, x.r2.monoB b p, x.q1.monoB b p, x.q2.monoB b p, b _ _ x.eL n1, b _ _ x.eM n2, b _ _ x.eN n3, x.O1.nl (b.nl p.lst), x.O2.nl (b.nl p.lst)⟩
theorem But.updN {h : Addr} {H H' : Hp} (x : But h H H') {D : Addr} (hD : H D = none) {o : HO} : But h H (L2.upd H' D o) := fun b u e n => by
  rw [upd_ne (ne_of_none e hD)]
  exact x _ _ e n
theorem ltsD_app (a b : List Lt) : ltsD (a ++ b) = .tup (a.map ltD ++ b.map ltD) := by
  show D.tup (List.map _ _) = _
  rw [List.map_append]
theorem rowsD_app (a b : List (List Int)) : rowsD (a ++ b) = .tup (a.map rowD ++ b.map rowD) := by
  show D.tup (List.map _ _) = _
  rw [List.map_append]
theorem btw_all {m : Nat} {ns : List Nat} (h : ∀ j ∈ ns, j < m) : (ns.map fun j => D.int (j : Nat)).all (isBtw 0 ((m : Int) - 1)) = true := by
  rw [List.all_eq_true]
  intro d hd
  obtain ⟨j, hj, rfl⟩ := List.mem_map.mp hd
  have := h j hj
  exact btw_of (by omega) (by omega)
theorem RpA.nats {H : Hp} {h : Addr} : ∀ ns : List Nat, RpA H h (ns.map fun j => V.int (j : Nat)) (ns.map fun j => D.int (j : Nat))
  | [] => .nil
  | n :: ns => .cons (.int _) (RpA.nats ns)
theorem row1000 {ls : List Lt} {rows : List (List Int)} (ln : LenOk ls rows) (h : ∀ l ∈ ls, l.1.length ≤ 8) : ∀ r ∈ rows, r.length ≤ 1000 := fun r hr => by
  obtain ⟨k, hk, e⟩ := List.mem_iff_getElem.mp hr
  have hk2 : k < ls.length := by rw [← ln.1]; exact hk
  have := ln.2 k ls[k] r (List.getElem?_eq_getElem hk2) (by rw [List.getElem?_eq_getElem hk, e])
  have := h ls[k] (List.getElem_mem hk2)
  omega
theorem cut1 {H : Hp} (xs : List V) : cutV xs none (some (1 : Int)) = xs.take 1 := by
  unfold cutV
  have s1 : HT.sIx xs.length 0 none = 0 := rfl
  have s2 : HT.sIx xs.length xs.length (some (1 : Int)) = min 1 xs.length := by
    show (if (1 : Int) < 0 then ((1 : Int) + (xs.length : Int)).toNat else min (1 : Int).toNat xs.length) = _
    rw [if_neg (by decide)]; rfl
  rw [s1, s2, List.drop_zero, Nat.sub_zero]
  by_cases h : xs.length = 0
  · rw [List.eq_nil_of_length_eq_zero h]; rfl
  · rw [Nat.min_eq_left (by omega)]
theorem newSame {H : Hp} {x dx C : Addr} (hx : H x = none) (hdx : H dx = none) : Same H (upd (upd H dx (.own x)) x (.ins C dx [])) := fun b o q => by
  rw [upd_ne (ne_of_none q hx), upd_ne (ne_of_none q hdx)]; exact q
theorem dayFacts {C CW : Addr} {H H7 : Hp} {h pw x dx : Addr} {v2 v3 : V} {n : Int} {rds : List D} {rm tm : List Int} {ls : List Lt} {rows : List (List Int)} (W : WebX CW H h pw n rds rm tm) (r2 : Rp H h v2 (ltsD ls)) (r3 : Rp H h v3 (rowsD rows)) (hx : H x = none) (hdx : H dx = none)
    (b7 : But x (upd (upd H dx (.own x)) x (.ins C dx [])) H7) (e7 : H7 x = some (.ins C dx (dayF (.ref pw) v2 v3))) : Same H H7 ∧ DayX C CW H7 h x n rds rm tm (ltsD ls) (rowsD rows) := by
  have s7 : Same H H7 := fun b o q => b7 _ _ (newSame hx hdx _ _ q) (ne_of_none q hx)
  have l1 : (dayF (.ref pw) v2 v3).length < 10 := putF_lt (n := 9) (putF_lt (n := 8) (putF_lt (n := 7) (by decide)))
  exact ⟨s7, ⟨dx, _, pw, v2, v3, e7, by omega, dF_w _ _ _, dF_l _ _ _, dF_h _ _ _, W.same s7, r2.same s7, r3.same s7⟩, isIn_lts ls, isIn_rows rows⟩
theorem webDue {n : Int} {rds : List D} {rm tm : List Int} (p : PartsOk n rds rm tm) : due (.int n) (.tup rds) (.tup (rm.map Hc.D.int)) (.tup (tm.map Hc.D.int)) = none := by
  have cnt : ∀ ns : List Int, ns.length = rds.length → (∀ x ∈ ns, 1 ≤ x ∧ x ≤ 3) → areBtw (rds.length : Nat) 1 3 (.tup (ns.map Hc.D.int)) = true := fun ns h1 h2 => by
    rw [areBtw_tup, List.length_map, decide_eq_true (show ((ns.length : Nat) : Int) = (rds.length : Nat) by omega), Bool.true_and, List.all_eq_true]
    intro d hd
    obtain ⟨x, hx, rfl⟩ := List.mem_map.mp hd
    exact btw_of (h2 x hx).1 (h2 x hx).2
  have q1 : ¬ isBtw 2 12 (.int n) = false := by rw [btw_of p.n0 p.n1]; decide
  have q2 : ¬ areRoads (num (.int n)) (.tup rds) = false := by
    show ¬ areRoads n (.tup rds) = false
    rw [areRoads_tup, decide_eq_true p.l1, decide_eq_true p.l2, p.all]; decide
  have q3 : ¬ areBtw (dlen (.tup rds)) 1 3 (.tup (rm.map Hc.D.int)) = false := by
    show ¬ areBtw (rds.length : Nat) 1 3 (.tup (rm.map Hc.D.int)) = false
    rw [cnt rm p.lr p.br]; decide
  have q4 : ¬ areBtw (dlen (.tup rds)) 1 3 (.tup (tm.map Hc.D.int)) = false := by
    show ¬ areBtw (rds.length : Nat) 1 3 (.tup (tm.map Hc.D.int)) = false
    rw [cnt tm p.lt p.bt]; decide
  exact (if_neg q1).trans ((if_neg q2).trans ((if_neg q3).trans (if_neg q4)))
theorem webFacts {C : Addr} {H H7 : Hp} {h x dx : Addr} {v2 v3 v4 : V} {n : Int} {rds : List D} {rm tm : List Int} (p : PartsOk n rds rm tm) (r2 : Rp H h v2 (.tup rds)) (r3 : Rp H h v3 (.tup (rm.map D.int))) (r4 : Rp H h v4 (.tup (tm.map D.int))) (hx : H x = none) (hdx : H dx = none)
    (b7 : But x (upd (upd H dx (.own x)) x (.ins C dx [])) H7) (e7 : H7 x = some (.ins C dx (webF (.int n) v2 v3 v4))) : Same H H7 ∧ WebX C H7 h x n rds rm tm := by
  have s7 : Same H H7 := fun b o q => b7 _ _ (newSame hx hdx _ _ q) (ne_of_none q hx)
  exact ⟨s7, ⟨dx, _, _, _, e7, r2.same s7, r3.same s7, r4.same s7⟩, ⟨dx, _, _, _, _, e7, r2.same s7, r3.same s7, r4.same s7⟩, p.all, p.l1, p.l2, p.lr, p.lt, p.br, p.bt⟩
end Hc


set_option Elab.async false
set_option linter.all false
set_option pp.maxSteps 900
set_option maxRecDepth 100000
set_option maxHeartbeats 4000000
set_option autoImplicit false
namespace Hc
open PySem L2
def rTupQ (K : PySem.W.Frag) : List V → Hp → VK → Prop := fun xs H Q => ∃ p ys, xs = [.ref p] ∧ ((SqL K H p ys ∧ ∀ l, H l = none → Q (.ref l) (upd H l (.tup ys))) ∨ (SqT K H p ys ∧ Q (.ref p) H))
def letQ (q : List Int) : D := .tup [.tup ((evn q 1).map D.int), .int (q.getD 0 0)]
def hrQ (q : List Int) : D := .tup ((evn q 2).map D.int)
theorem evn_map {α β : Type} (f : α → β) (L : List α) (k : Nat) : evn (L.map f) k = (evn L k).map f := by
  refine List.ext_getElem? fun i => ?_
  rw [evn_get, List.getElem?_map, List.getElem?_map, evn_get]
theorem areBtw_inv {m : Nat} {ns : List Int} (h : areBtw (m : Nat) 1 3 (.tup (ns.map D.int)) = true) : ns.length = m ∧ ∀ x ∈ ns, 1 ≤ x ∧ x ≤ 3 := by
  rw [areBtw_tup, Bool.and_eq_true, List.length_map] at h
  have h1 := of_decide_eq_true h.1
  refine ⟨by omega, fun x hx => ?_⟩
  have := List.all_eq_true.mp h.2 (.int x) (List.mem_map.mpr ⟨x, hx, rfl⟩)
  have : (decide (1 ≤ x) && decide (x ≤ 3)) = true := this
  rw [Bool.and_eq_true] at this
  exact ⟨of_decide_eq_true this.1, of_decide_eq_true this.2⟩
theorem tr {b : Bool} (h : ¬ b = false) : b = true := by
  cases b
  · exact absurd rfl h
  · rfl
theorem due_parts {n : Int} {rds : List D} {rm tm : List Int} (h : due (.int n) (.tup rds) (.tup (rm.map D.int)) (.tup (tm.map D.int)) = none) : PartsOk n rds rm tm := by
  unfold due at h
  split at h
  · cases h
  · next h1 =>
    split at h
    · cases h
    · next h2 =>
      split at h
      · cases h
      · next h3 =>
        split at h
        · cases h
        · next h4 =>
          have h1 : isBtw 2 12 (.int n) = true := tr h1
          have h1 : (decide (2 ≤ n) && decide (n ≤ 12)) = true := h1
          rw [Bool.and_eq_true] at h1
          have h2 : areRoads n (.tup rds) = true := tr h2
          rw [areRoads_tup, Bool.and_eq_true, Bool.and_eq_true] at h2
          have h3 : areBtw (rds.length : Nat) 1 3 (.tup (rm.map D.int)) = true := tr h3
          have h4 : areBtw (rds.length : Nat) 1 3 (.tup (tm.map D.int)) = true := tr h4
          obtain ⟨a1, a2⟩ := areBtw_inv h3
          obtain ⟨b1, b2⟩ := areBtw_inv h4
          exact ⟨of_decide_eq_true h1.1, of_decide_eq_true h1.2, h2.2, of_decide_eq_true h2.1.1, of_decide_eq_true h2.1.2, a1, b1, a2, b2⟩
theorem WebNew.x {C : Addr} {H : Hp} {h p : Addr} {n : Int} {qs : List (List Int)} (W : WebNew C H h p n qs) (hd : dueQ n qs = none) : WebX C H h p n (rdsQ qs) (colQ 2 qs) (colQ 3 qs) := by
  have P := due_parts hd
  obtain ⟨dx, v2, v3, v4, e, r2, r3, r4⟩ := W
  exact ⟨⟨dx, _, _, _, e, r2, r3, r4⟩, ⟨dx, _, _, _, _, e, r2, r3, r4⟩, P.all, P.l1, P.l2, P.lr, P.lt, P.br, P.bt⟩
theorem rows_short {w : Str} {x : Str} (h : x.length ≤ 9000) : ∀ q ∈ numsOf w (rowsX x), q.length ≤ 100000 := by
  intro q hq
  have hm := nums_mem hq
  unfold rowsX at hm
  obtain ⟨l, hl, e⟩ := List.mem_map.mp hm
  unfold rowOf at e
  injection e with e1 e2
  rw [← e2, List.length_map]
  have h1 := PyProof.Rows.split_le l " "
  rw [split_wr] at h1
  simp only [List.length_cons] at h1
  have h2 : l.length ≤ x.length := line_len (List.dropLast_subset _ hl)
  omega
section
variable {P : Program} {w : World} {K : PySem.W.Frag} {mg : Str → Option Value} {base : Heap}
def spReadDay (K : PySem.W.Frag) (CD C CT CB CY : Addr) : Sp := fun vs H Q E =>
  (∃ (h : Addr) (x : Str), vs = [.str x] ∧ x.length ≤ 9000 ∧
    (∀ ls rows, okAll ["web", "road", "letter"] x → endOk x → dueQ (headN x) (numsOf "road" (rowsX x)) = none → .tup ((numsOf "letter" (rowsX x)).map letQ) = ltsD ls → .tup ((numsOf "letter" (rowsX x)).map hrQ) = rowsD rows →
      DayOk (rdsQ (numsOf "road" (rowsX x))) (colQ 2 (numsOf "road" (rowsX x))) (colQ 3 (numsOf "road" (rowsX x))) ls rows → ∀ H' p', Same H H' → DayX CD C H' h p' (headN x) (rdsQ (numsOf "road" (rowsX x))) (colQ 2 (numsOf "road" (rowsX x))) (colQ 3 (numsOf "road" (rowsX x))) (ltsD ls) (rowsD rows) → Q (.ref p') H') ∧
    (∀ k, BadAt ["web", "road", "letter"] x k → ∀ H' d, Same H H' → H' d = some (.xd [("line", .int k)]) → E (.ref CT) (some d) H') ∧
    (∀ part, okAll ["web", "road", "letter"] x → endOk x → dueQ (headN x) (numsOf "road" (rowsX x)) = some part → ∀ H' d, Same H H' → H' d = some (.xd [("part", .str part)]) → E (.ref CB) (some d) H') ∧
    (∀ part, okAll ["web", "road", "letter"] x → endOk x → dueQ (headN x) (numsOf "road" (rowsX x)) = none → DueD (rdsQ (numsOf "road" (rowsX x))) (colQ 2 (numsOf "road" (rowsX x))) (colQ 3 (numsOf "road" (rowsX x))) (.tup ((numsOf "letter" (rowsX x)).map letQ)) (.tup ((numsOf "letter" (rowsX x)).map hrQ)) part →
      ∀ H' d, Same H H' → H' d = some (.xd [("part", .str part)]) → E (.ref CY) (some d) H')) ∨
  (∃ (h : Addr) (v : V) (d0 : D), vs = [v] ∧ Rp H h v d0 ∧ isStr d0 = false ∧ ∀ H' d, Same H H' → H' d = some (.xd [("line", .int 0)]) → E (.ref CT) (some d) H')
theorem ok_read_day (T : Tx K mg) (hB : BehF K mg w) : FnOk P w K mg base (L2.CX P w) 11 T.read_day.f T.read_day.fd ["text"] (spReadDay K T.Day.C T.Web.C T.x_BadText.C T.x_BadWeb.C T.x_BadDay.C) := by
  refine T.read_day.F.okX sc_read_day (fun vs H Q E h => ?_) (fun cdv A outer s H vs Q E hr h => ?_)
  · rcases h with ⟨h, x, rfl, _⟩ | ⟨h, v, d0, rfl, _⟩ <;> rfl
  · refine ⟨_, (pss_cons (ps_set (i := 1) sc_read_day.nd rfl (Or.inl rfl) (pe_callS (ok_rows_of T hB) (hr.mono (by decide)) rfl T.rows_of.g T.rows_of.F.kp T.rows_of.b (fun σ => passAt (takes_of rfl rfl rfl rfl) σ) (pa_cons (pv 0) (pa_cons (pe_tup (pa_cons pe_str (pa_cons pe_str (pa_cons pe_str pa_nil)))) pa_nil))))
      (pss_cons (ps_set (i := 2) sc_read_day.nd rfl (Or.inl rfl) (pe_callS (ok_web_of T) (hr.mono (by decide)) rfl T.web_of.g T.web_of.F.kp T.web_of.b (fun σ => passAt (takes_of rfl rfl rfl rfl) σ) (pa_cons (pv 1) pa_nil)))
      (pss_cons (ps_setLc (i := 3) (own := [("word", 5), ("numbers", 6)]) (g := (gTup K 2 (gCons (gName 5) (gCons (gName 6) gNil))))  rfl sc_read_day.nd rfl rfl (sw_true rfl rfl rfl (by decide +kernel)) (pi_list (pv 1)) (blkOk_by (own := [("word", 5), ("numbers", 6)]) (N := ["text", "rows", "web", "told", "letters", "word", "numbers"]) (sc := defScope s_read_day) (by decide +kernel)) (fun _ _ _ _ _ => (pg_tup (by rfl) (pgs_cons (pg_name (i := 5) sc_read_day.nd rfl (Or.inl rfl)) (pgs_cons (pg_name (i := 6) sc_read_day.nd rfl (Or.inl rfl)) pgs_nil)))) (fun _ _ _ _ _ => (pts_one (by exact (pt_cmpR op_eq (pv 5) pe_str (nomark _))))) (fun _ _ _ _ _ => (by exact (pv 6))))
      (pss_cons (ps_set (i := 4) sc_read_day.nd rfl (Or.inl rfl) (pe_callTy call_tuple_of (by rfl) T.n_tuple (by decide +kernel) (pa_cons (pe_lc (own := [("numbers", 6)]) (g := (gName 6)) (tt := tYes) (te := (tTup (tCons (tCB (rTupQ K) (tCons (tEvn K (tVar 6) 1) tNil)) (tCons (tOp (rIxL K) (tVar 6) (tC (.int 0))) tNil)))) rfl sc_read_day.nd (pi_list (pv 3)) (blkOk_by (own := [("numbers", 6)]) (N := ["text", "rows", "web", "told", "letters", "word", "numbers"]) (sc := defScope s_read_day) (by decide +kernel)) (fun _ _ _ _ _ => (pg_name (i := 6) sc_read_day.nd rfl (Or.inl rfl))) (fun _ _ _ _ _ => pts_nil) (fun _ _ _ _ _ => (by exact (pe_tup (pa_cons (pe_callTy call_tuple_of (by rfl) T.n_tuple (by decide +kernel) (pa_cons (pe_evn (pv 6)) pa_nil)) (pa_cons (pe_ix ix_list (pv 6) pe_int (fun _ _ => rfl)) pa_nil)))))) pa_nil)))
      (pss_one (ps_ret (pe_makeS T.Day.mk1 (ok_Day___init T) (hr.mono (by decide)) rfl T.Day.g T.Day.b .nil (fun σ => passAt (takes_of rfl rfl rfl rfl) σ) (pa_cons (pv 2) (pa_cons (pv 4) (pa_cons (pe_callTy call_tuple_of (by rfl) T.n_tuple (by decide +kernel) (pa_cons (pe_lc (own := [("numbers", 6)]) (g := (gName 6)) (tt := tYes) (te := (tCB (rTupQ K) (tCons (tEvn K (tVar 6) 2) tNil))) rfl sc_read_day.nd (pi_list (pv 3)) (blkOk_by (own := [("numbers", 6)]) (N := ["text", "rows", "web", "told", "letters", "word", "numbers"]) (sc := defScope s_read_day) (by decide +kernel)) (fun _ _ _ _ _ => (pg_name (i := 6) sc_read_day.nd rfl (Or.inl rfl))) (fun _ _ _ _ _ => pts_nil) (fun _ _ _ _ _ => (by exact (pe_callTy call_tuple_of (by rfl) T.n_tuple (by decide +kernel) (pa_cons (pe_evn (pv 6)) pa_nil))))) pa_nil)) pa_nil)))))))))), ?_⟩
    rcases h with ⟨h, x, rfl, hx, kq, kt, kb, ky⟩ | ⟨h, v, d0, rfl, r, i0, ke⟩
    · refine ⟨_, rfl, by show 3 ≤ sizeLine; decide, fun q hq => .inl ⟨x, q, ["web", "road", "letter"], rfl, upd_same, hx, fun H1 p s1 hok he R => ?_, fun k hb H1 d s1 e1 => kt k hb H1 d ((same_upd hq).trans s1) e1⟩⟩
      have sA := (same_upd hq).trans s1
      refine ⟨_, rfl, h, p, rowsX x, _, headN x, rfl, R, rows_head hok he, rows_len hx, rows_road hok, fun hd H2 p2 s2 W => ?_, fun part hd H2 d s2 e2 => kb part hok he hd H2 d (sA.trans s2) e2⟩
      have X := WebNew.x W hd
      have sB := sA.trans s2
      have R2 : RowsAt H2 p (rowsX x) := RowsAt.same R s2
      have kq2 := fun ls rows => kq ls rows hok he hd
      have ky2 := fun part => ky part hok he hd
      have hl := rows_len hx
      have hlt := rows_letter hok
      have hq9 : ∀ q ∈ numsOf "letter" (rowsX x), q.length ≤ 100000 := rows_short hx
      obtain ⟨vs, eP, lv, hv⟩ := R2
      refine ⟨_, rfl, p, rfl, ⟨_, SqL.of eP⟩, fun D hD => ?_⟩
      refine lc_list (K := K) (a := p) (xs := vs) (fun i H' => Same H2 H' ∧ ∃ ws : List V, H' D = some (.lst ws) ∧ ws.length = (numsOf "letter" ((rowsX x).take i)).length ∧ ∀ (j : Nat) (v : V) (q : List Int), ws[j]? = some v → (numsOf "letter" ((rowsX x).take i))[j]? = some q → ∃ l, v = .ref l ∧ H2 l = some (.lst (q.map V.int)))
        ⟨same_upd hD, [], upd_same, rfl, fun j v q e => by simp at e⟩ (fun i H' _ ⟨z, _⟩ => SqL.of (z _ _ eP)) ?_ ?_
      · rintro i v H3 hx ⟨s3, ws, eD, lw, hw⟩
        have hi : i < vs.length := (List.getElem?_eq_some_iff.mp hx).1
        have er : (rowsX x)[i]? = some (rowsX x)[i] := List.getElem?_eq_getElem (by omega)
        obtain ⟨q, l, rfl, e1, e2⟩ := hv i v _ hx er
        refine ⟨q, _, rfl, SqT.of (s3 _ _ e1), rfl, _, _, rfl, _, _, rfl, rfl, rfl, _, rfl, rfl, _, rfl, ?_⟩
        rw [take_more er, nums_app]
        cases hc : ofW "letter" (rowsX x)[i] with
        | false =>
          have hc' : decide (V.str (rowsX x)[i].1 = V.str "letter") = false := hc
          rw [hc', if_neg (by decide), if_neg (by decide), List.append_nil]
          exact ⟨s3, ws, eD, lw, hw⟩
        | true =>
          have hc' : decide (V.str (rowsX x)[i].1 = V.str "letter") = true := hc
          rw [hc', if_pos rfl, if_pos rfl]
          refine ⟨_, rfl, ws, eD, ?_, same_putX s3 hD, _, upd_same, by rw [List.length_append, List.length_append, lw]; rfl, fun j v q' e3 e4 => ?_⟩
          · have := nums_len "letter" ((rowsX x).take i)
            rw [List.length_take] at this
            exact line_lt (by omega)
          · by_cases hj : j < ws.length
            · rw [List.getElem?_append_left hj] at e3
              rw [List.getElem?_append_left (by omega)] at e4
              exact hw j v q' e3 e4
            · rw [List.getElem?_append_right (by omega)] at e3 e4
              rw [lw] at e3
              cases z : j - (numsOf "letter" ((rowsX x).take i)).length with
              | succ m => rw [z] at e3; simp at e3
              | zero =>
                rw [z] at e3 e4
                obtain rfl : v = .ref l := by simpa using e3.symm
                obtain rfl : q' = (rowsX x)[i].2 := by simpa using e4.symm
                exact ⟨l, rfl, e2⟩
      · rintro H3 ⟨s3, ws, eD, lw, hw⟩
        rw [lv, List.take_length] at lw hw
        have hn := nums_len "letter" (rowsX x)
        generalize numsOf "letter" (rowsX x) = ms at *
        have hq : ∀ (j : Nat) (v : V), ws[j]? = some v → ∃ l q, v = .ref l ∧ ms[j]? = some q ∧ H2 l = some (.lst (q.map V.int)) ∧ 1 < q.length := fun j v e => by
          have hj : j < ms.length := by rw [← lw]; exact (List.getElem?_eq_some_iff.mp e).1
          have eq := List.getElem?_eq_getElem hj
          obtain ⟨l, e1, e2⟩ := hw j v _ e eq
          exact ⟨l, ms[j], e1, eq, e2, (hlt _ (List.getElem_mem hj)).1⟩
        have hl2 : ms.length ≤ 10000 := by omega
        -- the letters
        refine ⟨_, rfl, D, rfl, ⟨_, SqL.of eD⟩, fun N hN => ?_⟩
        refine lc_list (K := K) (a := D) (xs := ws) (fun i H' => Same H3 H' ∧ ∃ ys : List V, H' N = some (.lst ys) ∧ RpA H' h ys ((ms.take i).map letQ)) ⟨same_upd hN, [], upd_same, .nil⟩ (fun i H' _ ⟨z, _⟩ => SqL.of (z _ _ eD)) ?_ ?_
        · rintro i v H4 hx ⟨s4, ys, eN, ra⟩
          obtain ⟨l, q, rfl, eq, el, h1⟩ := hq i v hx
          have el4 := s4 _ _ (s3 _ _ el)
          have q0 : atI (q.map V.int) ((0 : Nat) : Int) = some (.int (q.getD 0 0)) := by
            cases q with
            | nil => simp at h1
            | cons a r => exact atI_nat rfl
          refine ⟨rfl, tyes ⟨_, rfl, l, _, 1, rfl, rfl, SqL.of el4, by rw [List.length_map]; omega, fun g hg => ⟨g, _, rfl, .inl ⟨SqL.of upd_same, fun t1 ht1 => ?_⟩⟩⟩⟩
          have s5 := (same_upd (o := .lst (evn (q.map V.int) 1)) hg).trans (same_upd (o := .tup (evn (q.map V.int) 1)) ht1)
          have e5 : (upd (upd H4 g (.lst (evn (q.map V.int) 1))) t1 (.tup (evn (q.map V.int) 1))) t1 = some (.tup (evn (q.map V.int) 1)) := upd_same
          have nNg := ne_of_none eN hg
          generalize upd (upd H4 g (.lst (evn (q.map V.int) 1))) t1 (.tup (evn (q.map V.int) 1)) = H5 at *
          clear ht1 hg
          have eN5 := s5 _ _ eN
          refine ⟨_, rfl, l, _, 0, _, rfl, rfl, SqL.of (s5 _ _ el4), q0, by show 2 ≤ sizeLine; decide, fun t2 ht2 => ⟨ys, (upd_ne (ne_of_none eN5 ht2)).trans eN5, ?_, same_putX ((s4.trans s5).trans (same_upd ht2)) hN, _, upd_same, ?_⟩⟩
          · have := ra.len
            rw [this, List.length_map, List.length_take]; exact line_lt (by omega)
          · have nN := ne_of_none eN5 ht2
            have k1 : NL H5 (upd (upd H5 t2 (.tup [.ref t1, .int (q.getD 0 0)])) N (.lst (ys ++ [.ref t2]))) := (NL.of (same_upd ht2)).trans (NL.upd ((upd_ne nN).trans eN5))
            have nl : ∀ l : List (List Int), noLs (l.map letQ) = true := by
              intro l
              induction l with
              | nil => rfl
              | cons a r ih =>
                show (noL (letQ a) && noLs (r.map letQ)) = true
                rw [ih]
                show (noLs ((evn a 1).map Hc.D.int) && true && true) = true
                rw [noL_int]; rfl
            rw [take_more eq, List.map_append]
            refine ((ra.same s5).nl k1 (nl _)).app (.cons (.tup (xs := [.ref t1, .int (q.getD 0 0)]) ((upd_ne (Ne.symm nN)).trans upd_same) (by show 2 ≤ 100000; decide) (.cons ?_ (.cons (.int _) .nil))) .nil)
            have l4 : q.length ≤ 100000 := by
              have h5 : (evn q 1).length ≤ q.length := evn_le q 1
              have : q ∈ ms := List.mem_of_getElem? eq
              exact hq9 q this
            refine .tup (xs := evn (q.map V.int) 1) (k1 _ _ e5 (fun _ z => by cases z)) (Nat.le_trans (evn_le _ 1) (by rw [List.length_map]; exact l4)) ?_
            rw [evn_map]
            exact RpA.ints _
        · rintro H4 ⟨s4, ys, eN, ra⟩
          rw [lw, List.take_length] at ra
          refine ⟨N, ys, rfl, .inl ⟨SqL.of eN, fun t1 ht1 => ?_⟩⟩
          have s5 := s4.trans (same_upd (o := .tup ys) ht1)
          have e5 : (upd H4 t1 (.tup ys)) t1 = some (.tup ys) := upd_same
          have r5 := ra.same (same_upd (o := .tup ys) ht1)
          generalize upd H4 t1 (.tup ys) = H5 at *
          have rl : Rp H5 h (.ref t1) (.tup (ms.map letQ)) := .tup e5 (by rw [r5.len, List.length_map]; omega) r5
          clear ht1 hN
          have eD5 := s5 _ _ eD
          -- the hours
          refine ⟨_, rfl, _, rfl, _, rfl, D, rfl, ⟨_, SqL.of eD5⟩, fun N2 hN2 => ?_⟩
          refine lc_list (K := K) (a := D) (xs := ws) (fun i H' => Same H5 H' ∧ ∃ ys : List V, H' N2 = some (.lst ys) ∧ RpA H' h ys ((ms.take i).map hrQ)) ⟨same_upd hN2, [], upd_same, .nil⟩ (fun i H' _ ⟨z, _⟩ => SqL.of (z _ _ eD5)) ?_ ?_
          · rintro i v H6 hx ⟨s6, zs, eN2, rb⟩
            obtain ⟨l, q, rfl, eq, el, h1⟩ := hq i v hx
            have el6 := s6 _ _ (s5 _ _ (s3 _ _ el))
            refine ⟨rfl, tyes ⟨_, rfl, l, _, 2, rfl, rfl, SqL.of el6, by rw [List.length_map]; omega, fun g hg => ⟨g, _, rfl, .inl ⟨SqL.of upd_same, fun t2 ht2 => ?_⟩⟩⟩⟩
            have s7 := (same_upd (o := .lst (evn (q.map V.int) 2)) hg).trans (same_upd (o := .tup (evn (q.map V.int) 2)) ht2)
            have e7 : (upd (upd H6 g (.lst (evn (q.map V.int) 2))) t2 (.tup (evn (q.map V.int) 2))) t2 = some (.tup (evn (q.map V.int) 2)) := upd_same
            generalize upd (upd H6 g (.lst (evn (q.map V.int) 2))) t2 (.tup (evn (q.map V.int) 2)) = H7 at *
            clear ht2 hg
            have eN7 := s7 _ _ eN2
            refine ⟨zs, eN7, ?_, same_putX (s6.trans s7) hN2, _, upd_same, ?_⟩
            · have := rb.len
              rw [this, List.length_map, List.length_take]; exact line_lt (by omega)
            · have k1 : NL H7 (upd H7 N2 (.lst (zs ++ [.ref t2]))) := NL.upd eN7
              have nl : ∀ l : List (List Int), noLs (l.map hrQ) = true := by
                intro l
                induction l with
                | nil => rfl
                | cons a r ih =>
                  show (noL (hrQ a) && noLs (r.map hrQ)) = true
                  rw [ih]
                  show (noLs ((evn a 2).map Hc.D.int) && true) = true
                  rw [noL_int]; rfl
              rw [take_more eq, List.map_append]
              have l4 : q.length ≤ 100000 := hq9 q (List.mem_of_getElem? eq)
              refine ((rb.same s7).nl k1 (nl _)).app (.cons (.tup (xs := evn (q.map V.int) 2) (k1 _ _ e7 (fun _ z => by cases z)) (Nat.le_trans (evn_le _ 2) (by rw [List.length_map]; exact l4)) ?_) .nil)
              rw [evn_map]
              exact RpA.ints _
          · rintro H6 ⟨s6, zs, eN2, rb⟩
            rw [lw, List.take_length] at rb
            refine ⟨N2, zs, rfl, .inl ⟨SqL.of eN2, fun t2 ht2 => ?_⟩⟩
            have s7 := s6.trans (same_upd (o := .tup zs) ht2)
            have e7 : (upd H6 t2 (.tup zs)) t2 = some (.tup zs) := upd_same
            have r7 := rb.same (same_upd (o := .tup zs) ht2)
            generalize upd H6 t2 (.tup zs) = H7 at *
            have rh : Rp H7 h (.ref t2) (.tup (ms.map hrQ)) := .tup e7 (by rw [r7.len, List.length_map]; omega) r7
            clear ht2 hN2
            have rl7 := rl.same s7
            have X7 := X.same ((s3.trans s5).trans s7)
            have sC : Same H H7 := sB.trans ((s3.trans s5).trans s7)
            intro y dx hy hdx ny
            have sx := newSame (C := T.Day.C) hy hdx
            refine ⟨h, y, dx, p2, _, _, _, _, headN x, _, _, _, rfl, upd_same, X7.w.same sx, rl7.same sx, rh.same sx, fun ls rows el er ok H8 b8 e8 => ⟨rfl, ?_⟩, fun part hp H8 d s8 e8 => ky2 part hp H8 d ((sC.trans sx).trans s8) e8⟩
            rw [el] at rl7
            rw [er] at rh
            obtain ⟨s8, Y⟩ := dayFacts X7 rl7 rh hy hdx b8 e8
            exact kq2 ls rows el er ok H8 y (sC.trans s8) Y
    · refine ⟨_, rfl, by show 3 ≤ sizeLine; decide, fun q hq => .inr ⟨v, _, q, rfl, (r.same (same_upd hq)).ty, kit_ty (kitStr d0 i0), fun H1 d s1 e1 => ke H1 d ((same_upd hq).trans s1) e1⟩⟩
end
end Hc


set_option Elab.async false
set_option linter.all false
set_option pp.maxSteps 900
set_option maxRecDepth 100000
set_option maxHeartbeats 4000000
set_option autoImplicit false
namespace Hc
open PySem L2
theorem unzA : ∀ {ls : List Lt} {rows : List (List Int)}, rows.length = ls.length → (ls.zip rows).map (·.1) = ls
  | [], [], _ => rfl
  | [], _ :: _, h => by simp at h
  | _ :: _, [], h => by simp at h
  | l :: ls, r :: rows, h => by rw [List.zip_cons_cons, List.map_cons, unzA (by simpa using h)]
theorem unzB : ∀ {ls : List Lt} {rows : List (List Int)}, rows.length = ls.length → (ls.zip rows).map (·.2) = rows
  | [], [], _ => rfl
  | [], _ :: _, h => by simp at h
  | _ :: _, [], h => by simp at h
  | l :: ls, r :: rows, h => by rw [List.zip_cons_cons, List.map_cons, unzB (by simpa using h)]
/-- what a text tells -/
structure Told (x : Str) (n : Int) (rds : List D) (rm tm : List Int) (ls : List Lt) (rows : List (List Int)) : Prop where
  h : headN x = n
  r1 : rdsQ (numsOf "road" (rowsX x)) = rds
  r2 : colQ 2 (numsOf "road" (rowsX x)) = rm
  r3 : colQ 3 (numsOf "road" (rowsX x)) = tm
  l : (numsOf "letter" (rowsX x)).map letQ = ls.map ltD
  w : (numsOf "letter" (rowsX x)).map hrQ = rows.map rowD
  ok : ∀ ws : List Str, ("web" : Str) ∈ ws → ("road" : Str) ∈ ws → (ls = [] ∨ ("letter" : Str) ∈ ws) → okAll ws x
  e : endOk x
def qsOf (rds : List D) (rm tm : List Int) : List (Int × Int × Int × Int) := (List.range rds.length).map fun i => (bg (rds.getD i .non), en (rds.getD i .non), rm.getD i 0, tm.getD i 0)
def msOf (ls : List Lt) (rows : List (List Int)) : List (Int × List (Int × Int)) := (ls.zip rows).map fun p => (p.1.2, psL p.1 p.2)
theorem dayS_all (n : Int) (rds : List D) (rm tm : List Int) (ls : List Lt) (rows : List (List Int)) : dayS n rds rm tm ls rows = closedS (allLs n (qsOf rds rm tm) (msOf ls rows)) := by
  unfold dayS webS
  rw [closed_append]
  congr 1
  unfold webLs lineLs allLs qsOf msOf
  rw [List.map_map, List.map_map, List.cons_append]
  rfl
theorem nums_all (n : Int) (qs : List (Int × Int × Int × Int)) (ms : List (Int × List (Int × Int))) :
    numsOf "road" ((("web" : Str), [n]) :: (qs.map (fun q => (("road" : Str), roadN q)) ++ ms.map fun m => (("letter" : Str), m.1 :: flat2 m.2))) = qs.map roadN ∧
    numsOf "letter" ((("web" : Str), [n]) :: (qs.map (fun q => (("road" : Str), roadN q)) ++ ms.map fun m => (("letter" : Str), m.1 :: flat2 m.2))) = ms.map fun m => m.1 :: flat2 m.2 := by
  have f : ∀ (a : Str) (w : Str) (L : List (List Int)), decide (V.str a = V.str w) = true → ((L.map fun q => (a, q)).filter (ofW w)).map (·.2) = L := by
    intro a w L h
    induction L with
    | nil => rfl
    | cons q r ih => rw [List.map_cons, List.filter_cons_of_pos (show ofW w (a, q) = true from h), List.map_cons, ih]
  have g : ∀ (a : Str) (w : Str) (L : List (List Int)), decide (V.str a = V.str w) = false → ((L.map fun q => (a, q)).filter (ofW w)).map (·.2) = [] := by
    intro a w L h
    induction L with
    | nil => rfl
    | cons q r ih => rw [List.map_cons, List.filter_cons_of_neg (show ¬ ofW w (a, q) = true by rw [show ofW w (a, q) = false from h]; decide), ih]
  have c1 : qs.map (fun q => (("road" : Str), roadN q)) = (qs.map roadN).map fun q => (("road" : Str), q) := by rw [List.map_map]; rfl
  have c2 : (ms.map fun m => (("letter" : Str), m.1 :: flat2 m.2)) = (ms.map fun m => m.1 :: flat2 m.2).map fun q => (("letter" : Str), q) := by rw [List.map_map]; rfl
  unfold numsOf
  rw [c1, c2]
  constructor
  · rw [List.filter_cons_of_neg (by show ¬ decide (V.str "web" = V.str "road") = true; decide +kernel), List.filter_append, List.map_append, f _ _ _ (by decide +kernel), g _ _ _ (by decide +kernel), List.append_nil]
  · rw [List.filter_cons_of_neg (by show ¬ decide (V.str "web" = V.str "letter") = true; decide +kernel), List.filter_append, List.map_append, g _ _ _ (by decide +kernel), f _ _ _ (by decide +kernel), List.nil_append]
theorem NumR.o {i : Int} (h : NumR i) : NumOk i := ⟨h.1, by have := h.2; omega⟩
theorem all_ok {n : Int} {rds : List D} {rm tm : List Int} {ls : List Lt} {rows : List (List Int)} (p : PartsOk n rds rm tm) (o : LsOk rds ls) (ln : LenOk ls rows) (hr : ∀ r ∈ rows, ∀ x ∈ r, NumR x) :
    AllOk n (qsOf rds rm tm) (msOf ls rows) := by
  have a0 := p.n0
  have a1 := p.n1
  have l1 := p.l1
  have l2 := p.l2
  refine ⟨⟨by omega, by omega⟩, fun q hq => ?_, by unfold qsOf; rw [List.length_map, List.length_range]; exact l1, fun m hm => ?_⟩
  · unfold qsOf at hq
    obtain ⟨i, hi, rfl⟩ := List.mem_map.mp hq
    have hi := List.mem_range.mp hi
    have hbe := List.all_eq_true.mp p.all rds[i] (List.getElem_mem hi)
    obtain ⟨b, e, ed, q1, q2, q3, q4, _⟩ := be_full hbe
    have eg : rds.getD i .non = .tup [.int b, .int e] := by rw [List.getD_eq_getElem?_getD, List.getElem?_eq_getElem hi]; exact ed
    have hrr : i < rm.length := by rw [p.lr]; exact hi
    have htt : i < tm.length := by rw [p.lt]; exact hi
    have er : rm.getD i 0 = rm[i] := by rw [List.getD_eq_getElem?_getD, List.getElem?_eq_getElem hrr]; rfl
    have et : tm.getD i 0 = tm[i] := by rw [List.getD_eq_getElem?_getD, List.getElem?_eq_getElem htt]; rfl
    have br := p.br rm[i] (List.getElem_mem hrr)
    have bt := p.bt tm[i] (List.getElem_mem htt)
    intro z hz
    unfold roadN at hz
    rw [eg, er, et] at hz
    simp only [List.mem_cons, List.not_mem_nil, or_false] at hz
    rcases hz with rfl | rfl | rfl | rfl
    · exact ⟨q1, Int.lt_of_lt_of_le q2 (by omega)⟩
    · exact ⟨q3, Int.lt_of_lt_of_le q4 (by omega)⟩
    · exact ⟨by omega, by omega⟩
    · exact ⟨by omega, by omega⟩
  · unfold msOf at hm
    obtain ⟨⟨l, r⟩, hz, rfl⟩ := List.mem_map.mp hm
    obtain ⟨i, hi, e⟩ := List.mem_iff_getElem.mp hz
    have ez : (ls.zip rows)[i]? = some (l, r) := by rw [List.getElem?_eq_getElem hi, e]
    rw [List.getElem?_zip_eq_some] at ez
    obtain ⟨o1, o2, o3, _, o5, o6⟩ := o.h l (List.mem_of_getElem? ez.1)
    have hlr := ln.2 i l r ez.1 ez.2
    have hrr := hr r (List.mem_of_getElem? ez.2)
    constructor
    · intro z
      have : (psL l r).length = 0 := by rw [show psL l r = [] from z]; rfl
      unfold psL at this
      rw [List.length_zip, List.length_map] at this
      omega
    · intro z hz
      rcases List.mem_cons.mp hz with rfl | hz
      · exact ⟨by show 0 ≤ l.2; omega, by show l.2 < _; omega⟩
      · unfold flat2 at hz
        obtain ⟨pr, hp, hm2⟩ := List.mem_flatten.mp hz
        obtain ⟨⟨a, b⟩, hab, rfl⟩ := List.mem_map.mp hp
        unfold psL at hab
        obtain ⟨h1, h2⟩ := List.of_mem_zip hab
        obtain ⟨j, hj, rfl⟩ := List.mem_map.mp h1
        have := o3 j hj
        simp only [List.mem_cons, List.not_mem_nil, or_false] at hm2
        rcases hm2 with rfl | rfl
        · exact ⟨by show (0 : Int) ≤ (j : Nat); omega, by show ((j : Nat) : Int) < _; omega⟩
        · exact hrr _ h2
theorem body_all {n : Int} {qs : List (Int × Int × Int × Int)} {ms : List (Int × List (Int × Int))} (A : AllOk n qs ms) : linesOf (closedS (allLs n qs ms)) = allLs n qs ms ++ [("" : Str)] ∧ bodyOf (closedS (allLs n qs ms)) = allLs n qs ms := by
  have h : linesOf (closedS (allLs n qs ms)) = allLs n qs ms ++ [("" : Str)] := A.split
  exact ⟨h, by unfold bodyOf; rw [h]; exact List.dropLast_concat⟩
theorem told_of {n : Int} {rds : List D} {rm tm : List Int} {ls : List Lt} {rows : List (List Int)} (p : PartsOk n rds rm tm) (o : LsOk rds ls) (ln : LenOk ls rows) (hr : ∀ r ∈ rows, ∀ x ∈ r, NumR x) : Told (dayS n rds rm tm ls rows) n rds rm tm ls rows := by
  have A := all_ok p o ln hr
  rw [dayS_all]
  obtain ⟨h1, h2⟩ := body_all A
  have hR : rowsX (closedS (allLs n (qsOf rds rm tm) (msOf ls rows))) = (("web" : Str), [n]) :: ((qsOf rds rm tm).map (fun q => (("road" : Str), roadN q)) ++ (msOf ls rows).map fun m => (("letter" : Str), m.1 :: flat2 m.2)) := by unfold rowsX; rw [h2]; exact A.rows
  obtain ⟨n1, n2⟩ := nums_all n (qsOf rds rm tm) (msOf ls rows)
  rw [← hR] at n1 n2
  have road : ∀ i (hi : i < rds.length), rds[i] = .tup [.int (bg (rds.getD i .non)), .int (en (rds.getD i .non))] := by
    intro i hi
    have hbe := List.all_eq_true.mp p.all rds[i] (List.getElem_mem hi)
    obtain ⟨b, e, ed, _⟩ := be_full hbe
    have eg : rds.getD i .non = .tup [.int b, .int e] := by rw [List.getD_eq_getElem?_getD, List.getElem?_eq_getElem hi]; exact ed
    rw [eg]; exact ed
  have zip1 : (ls.zip rows).map (·.1) = ls := unzA ln.1
  have zip2 : (ls.zip rows).map (·.2) = rows := unzB ln.1
  have at_ : ∀ q ∈ ls.zip rows, (psL q.1 q.2).map (·.1) = q.1.1.map (fun j => ((j : Nat) : Int)) ∧ (psL q.1 q.2).map (·.2) = q.2 := by
    intro q hq
    obtain ⟨i, hi, e⟩ := List.mem_iff_getElem.mp hq
    have ez : (ls.zip rows)[i]? = some (q.1, q.2) := by rw [List.getElem?_eq_getElem hi, e]
    rw [List.getElem?_zip_eq_some] at ez
    have hlr := ln.2 i q.1 q.2 ez.1 ez.2
    unfold psL
    constructor
    · exact List.map_fst_zip (by rw [List.length_map]; omega)
    · exact List.map_snd_zip (by rw [List.length_map]; omega)
  constructor
  · show (rowOf ((bodyOf _).getD 0 "")).2.getD 0 0 = n
    rw [h2]
    have := (is_web A.n).row (by intro x hx; rw [List.mem_singleton.mp hx]; exact A.n)
    show (rowOf (fWeb n)).2.getD 0 0 = n
    rw [this]; rfl
  · rw [n1]
    unfold rdsQ qsOf
    rw [List.map_map, List.map_map]
    refine List.ext_getElem? fun i => ?_
    rw [List.getElem?_map]
    by_cases hi : i < rds.length
    · rw [List.getElem?_range hi, List.getElem?_eq_getElem hi, road i hi]; rfl
    · rw [List.getElem?_eq_none (by rw [List.length_range]; omega), List.getElem?_eq_none (by omega)]; rfl
  · rw [n1]
    unfold colQ qsOf
    rw [List.map_map, List.map_map]
    refine List.ext_getElem? fun i => ?_
    rw [List.getElem?_map]
    have lr := p.lr
    by_cases hi : i < rds.length
    · rw [List.getElem?_range hi, List.getElem?_eq_getElem (show i < rm.length by omega)]
      show some (rm.getD i 0) = _
      rw [List.getD_eq_getElem?_getD, List.getElem?_eq_getElem (show i < rm.length by omega)]; rfl
    · rw [List.getElem?_eq_none (by rw [List.length_range]; omega), List.getElem?_eq_none (by omega)]; rfl
  · rw [n1]
    unfold colQ qsOf
    rw [List.map_map, List.map_map]
    refine List.ext_getElem? fun i => ?_
    rw [List.getElem?_map]
    have lr := p.lt
    by_cases hi : i < rds.length
    · rw [List.getElem?_range hi, List.getElem?_eq_getElem (show i < tm.length by omega)]
      show some (tm.getD i 0) = _
      rw [List.getD_eq_getElem?_getD, List.getElem?_eq_getElem (show i < tm.length by omega)]; rfl
    · rw [List.getElem?_eq_none (by rw [List.length_range]; omega), List.getElem?_eq_none (by omega)]; rfl
  · rw [n2]
    unfold msOf
    rw [List.map_map, List.map_map]
    conv => rhs; rw [← zip1, List.map_map]
    refine List.map_congr_left fun q hq => ?_
    show letQ (q.1.2 :: flat2 (psL q.1 q.2)) = ltD q.1
    unfold letQ
    rw [evn_one, (at_ q hq).1, List.map_map]
    rfl
  · rw [n2]
    unfold msOf
    rw [List.map_map, List.map_map]
    conv => rhs; rw [← zip2, List.map_map]
    refine List.map_congr_left fun q hq => ?_
    show hrQ (q.1.2 :: flat2 (psL q.1 q.2)) = rowD q.2
    unfold hrQ
    rw [evn_two, (at_ q hq).2]
    rfl
  · intro ws w1 w2 w3
    have hm : msOf ls rows = [] ∨ ("letter" : Str) ∈ ws := by
      rcases w3 with z | z
      · left; unfold msOf; rw [z]; rfl
      · exact .inr z
    intro i hi
    unfold okAt
    rw [h2] at hi ⊢
    exact (A.ok w1 w2 hm).1 i hi
  · refine ⟨?_, ?_⟩
    · rw [h1, List.length_append]
      show (allLs n (qsOf rds rm tm) (msOf ls rows) ++ [("" : Str)]).getD ((allLs n (qsOf rds rm tm) (msOf ls rows)).length + 1 - 1) "" = ""
      rw [List.getD_eq_getElem?_getD, List.getElem?_append_right (by omega)]
      simp
    · rw [h2]
      exact (A.ok (ws := ["web", "road", "letter"]) (by simp) (by simp) (.inr (by simp))).2
/-- texts of the same are the same things -/
theorem Told.inj {x : Str} {n n' : Int} {rds rds' : List D} {rm tm rm' tm' : List Int} {ls ls' : List Lt} {rows rows' : List (List Int)} (a : Told x n rds rm tm ls rows) (b : Told x n' rds' rm' tm' ls' rows') : n = n' ∧ rds = rds' ∧ rm = rm' ∧ tm = tm' ∧ ls = ls' ∧ rows = rows' :=
  ⟨a.h.symm.trans b.h, a.r1.symm.trans b.r1, a.r2.symm.trans b.r2, a.r3.symm.trans b.r3, lts_inj (a.l.symm.trans b.l), rows_inj (a.w.symm.trans b.w)⟩
theorem lineS_short {l : Lt} {r : List Int} (hl : r.length = l.1.length) (h8 : l.1.length ≤ 8) (hc : NumOk l.2) (hj : ∀ j ∈ l.1, j < 1000) (hr : ∀ x ∈ r, NumOk x) : (lineS l r).length ≤ 230 := by
  have a3 := ja (ja (ja l0e l7) hc.len) l1s
  have a4 : (Txt.join " " ((psL l r).map fun p => fPair p.1 p.2)).length ≤ (25 + 1) * 8 := join_len (fun w hw => by
    obtain ⟨p, hp, rfl⟩ := List.mem_map.mp hw
    obtain ⟨h1, h2⟩ := List.of_mem_zip hp
    obtain ⟨j, hj', e⟩ := List.mem_map.mp h1
    have := hj j hj'
    exact fPair_len (by rw [← e]; exact ⟨by omega, by omega⟩) (hr _ h2)) (by unfold psL; rw [List.length_map, List.length_zip, List.length_map, hl]; omega)
  exact Nat.le_trans (ja a3 a4) (by decide)
theorem dayS_len {n : Int} {rds : List D} {rm tm : List Int} {ls : List Lt} {rows : List (List Int)} (p : PartsOk n rds rm tm) (o : LsOk rds ls) (ln : LenOk ls rows) (hr : ∀ r ∈ rows, ∀ x ∈ r, NumR x) (h25 : ls.length ≤ 25) : (dayS n rds rm tm ls rows).length ≤ 9000 := by
  have A := all_ok p o ln hr
  unfold dayS
  have n1 : NumOk n := A.n.o
  have c1 : (closedS (webLs n rds rm tm)).length ≤ (60 + 1) * 25 := closed_len (fun l hl => by
    rcases List.mem_cons.mp hl with rfl | hl
    · exact Nat.le_trans (ja (ja l0e (show ("web " : Str).length ≤ 4 by decide +kernel)) n1.len) (by decide)
    · obtain ⟨i, hi, rfl⟩ := List.mem_map.mp hl
      have hq : (bg (rds.getD i .non), en (rds.getD i .non), rm.getD i 0, tm.getD i 0) ∈ qsOf rds rm tm := List.mem_map.mpr ⟨i, hi, rfl⟩
      have q := A.q _ hq
      unfold QOk roadN at q
      have l5 : ("road " : Str).length ≤ 5 := by decide +kernel
      unfold roadS fRoad
      exact Nat.le_trans (ja (ja (ja (ja (ja (ja (ja (ja l0e l5) (q _ (by simp)).o.len) l1s) (q _ (by simp)).o.len) l1s) (q _ (by simp)).o.len) l1s) (q _ (by simp)).o.len) (by decide)) (by
    unfold webLs
    rw [List.length_cons, List.length_map, List.length_range]
    have := p.l2
    omega)
  have c2 : (closedS (lineLs ls rows)).length ≤ (230 + 1) * 25 := closed_len (fun l hl => by
    unfold lineLs at hl
    obtain ⟨⟨l1, r1⟩, hm, rfl⟩ := List.mem_map.mp hl
    obtain ⟨i, hi, e⟩ := List.mem_iff_getElem.mp hm
    have ez : (ls.zip rows)[i]? = some (l1, r1) := by rw [List.getElem?_eq_getElem hi, e]
    rw [List.getElem?_zip_eq_some] at ez
    obtain ⟨o1, o2, o3, _, o5, o6⟩ := o.h l1 (List.mem_of_getElem? ez.1)
    have w2 := p.l2
    exact lineS_short (ln.2 i _ _ ez.1 ez.2) o2 ⟨Int.le_trans (by decide) o5, Int.lt_of_le_of_lt o6 (by decide)⟩ (fun j hj => by have := o3 j hj; omega) (fun z hz => (hr _ (List.mem_of_getElem? ez.2) z hz).o)) (by unfold lineLs; rw [List.length_map, List.length_zip]; omega)
  unfold webS
  rw [len_app]
  omega
end Hc


set_option Elab.async false
set_option linter.all false
set_option pp.maxSteps 900
set_option maxRecDepth 100000
set_option maxHeartbeats 4000000
set_option autoImplicit false
namespace Hc
open PySem L2
theorem join_nl : ∀ ps : List (List Nat), ps ≠ [] → TL.joinL [10] ps ++ [10] = (ps.map fun l => l ++ [10]).flatten
  | [], h => absurd rfl h
  | [p], _ => by simp [TL.joinL]
  | p :: q :: r, _ => by
    have ih := join_nl (q :: r) (by simp)
    rw [joinL_cons2 [10] p (by simp), List.map_cons, List.flatten_cons, ← ih]
    simp
theorem join_closed {ls : List Str} (h : ls ≠ []) : Txt.join "\n" ls ++ ("\n" : Str) = closedS ls := by
  refine TL.ext_tl ?_
  rw [TL.tl_append, TL.join_eq, TL.tl_join, tl_nl, tl_closed, join_nl _ (by simpa using h), List.map_map]
  rfl
theorem fWeb_eq (n : Int) : ("web " : Str) ++ sn n = fWeb n := by
  refine TL.ext_tl ?_
  unfold fWeb
  simp only [TL.tl_append, tl_empty]
  simp
theorem join_le {y : Str} {ws : List Str} {k m : Nat} (h : ∀ w ∈ ws, w.length ≤ k) (hn : ws.length ≤ m) : (ws.map (·.length)).sum ≤ m * k := by
  refine Nat.le_trans (sum_le (m := k) fun x hx => ?_) ?_
  · obtain ⟨w, hw, rfl⟩ := List.mem_map.mp hx
    exact h w hw
  · rw [List.length_map]; exact Nat.mul_le_mul_right _ hn
theorem webLs_short {n : Int} {rds : List D} {rm tm : List Int} (p : PartsOk n rds rm tm) : (∀ l ∈ webLs n rds rm tm, l.length ≤ 60) ∧ (webLs n rds rm tm).length ≤ 25 := by
  have A := all_ok (ls := []) (rows := []) p ⟨fun _ z => nomatch z⟩ ⟨rfl, fun k l r e => by simp at e⟩ (fun _ z => nomatch z)
  constructor
  · intro l hl
    rcases List.mem_cons.mp hl with rfl | hl
    · exact Nat.le_trans (ja (ja l0e (show ("web " : Str).length ≤ 4 by decide +kernel)) A.n.o.len) (by decide)
    · obtain ⟨i, hi, rfl⟩ := List.mem_map.mp hl
      have hq : (bg (rds.getD i .non), en (rds.getD i .non), rm.getD i 0, tm.getD i 0) ∈ qsOf rds rm tm := List.mem_map.mpr ⟨i, hi, rfl⟩
      have q := A.q _ hq
      unfold QOk roadN at q
      have l5 : ("road " : Str).length ≤ 5 := by decide +kernel
      unfold roadS fRoad
      exact Nat.le_trans (ja (ja (ja (ja (ja (ja (ja (ja l0e l5) (q _ (by simp)).o.len) l1s) (q _ (by simp)).o.len) l1s) (q _ (by simp)).o.len) l1s) (q _ (by simp)).o.len) (by decide)
  · unfold webLs
    rw [List.length_cons, List.length_map, List.length_range]
    have := p.l2
    omega
section
variable {P : Program} {w : World} {K : PySem.W.Frag} {mg : Str → Option Value} {base : Heap}
def spLawWebText : Sp := fun vs H Q _ => ∃ (h : Addr) (v : V) (n : Int) (rds : List D) (rm tm : List Int), vs = [v] ∧ WebF H h v n rds rm tm ∧ ∀ H', Same H H' → Q (.str (webS n rds rm tm)) H'
theorem ok__law_web_text (T : Tx K mg) : FnOk P w K mg base CX0 1 T._law_web_text.f T._law_web_text.fd ["_law_web_here"] spLawWebText := by
  refine T._law_web_text.F.ok sc_law_web_text (fun vs H Q E h => ?_) (fun cdv A outer s H vs Q E hr h => ?_)
  · obtain ⟨_, _, _, _, _, _, rfl, _⟩ := h
    rfl
  · obtain ⟨h, v, n, rds, rm, tm, rfl, W, k⟩ := h
    refine ⟨_, (pss_cons (ps_set (i := 1) sc_law_web_text.nd rfl (Or.inl rfl) (pe_lst (pa_cons (pe_op op_add_str pe_str (pe_callTy call_str_int (by rfl) T.n_str (by decide +kernel) (pa_cons (pe_ix ix_tup (pv 0) pe_int (fun _ _ => rfl)) pa_nil))) pa_nil)))
      (pss_cons (ps_for PassesOwn.never rfl (pi_range1 (by rfl) T.n_range (pa_cons (pe_callB call_len_seq (by rfl) T.n_len (by decide +kernel) (pa_cons (pe_ix ix_tup (pv 0) pe_int (fun _ _ => rfl)) pa_nil)) pa_nil)) (pg_name (i := 2) sc_law_web_text.nd rfl (Or.inl rfl))
      (pss_cons (ps_set (i := 3) sc_law_web_text.nd rfl (Or.inl rfl) (pe_lst (pa_cons (pe_ix ix_tup (pe_ix ix_tup (pe_ix ix_tup (pv 0) pe_int (fun _ _ => rfl)) (pv 2) (fun _ _ => rfl)) pe_int (fun _ _ => rfl)) (pa_cons (pe_ix ix_tup (pe_ix ix_tup (pe_ix ix_tup (pv 0) pe_int (fun _ _ => rfl)) (pv 2) (fun _ _ => rfl)) pe_int (fun _ _ => rfl)) (pa_cons (pe_ix ix_tup (pe_ix ix_tup (pv 0) pe_int (fun _ _ => rfl)) (pv 2) (fun _ _ => rfl)) (pa_cons (pe_ix ix_tup (pe_ix ix_tup (pv 0) pe_int (fun _ _ => rfl)) (pv 2) (fun _ _ => rfl)) pa_nil))))))
      (pss_one (ps_expr (pe_bm PySem.F.plainAttrs_list PySem.F.slot_list_append PySem.F.type_list_append mt_append (pv 1) (pa_cons (pe_join pe_str (pe_op op_cat (pe_lst (pa_cons pe_str pa_nil)) (pe_lc (own := [("_law_number_here", 4)]) (g := (gName 4)) (tt := tYes) rfl sc_law_web_text.nd (pi_list (pv 3)) (blkOk_by (own := [("_law_number_here", 4)]) (N := ["_law_web_here", "_law_lines", "_law_road", "_law_numbers", "_law_number_here"]) (sc := defScope s_law_web_text) (by decide +kernel)) (fun _ _ _ _ _ => (pg_name (i := 4) sc_law_web_text.nd rfl (Or.inl rfl))) (fun _ _ _ _ _ => pts_nil) (fun _ _ _ _ _ => (by exact (pe_callTy call_str_int (by rfl) T.n_str (by decide +kernel) (pa_cons (pv 4) pa_nil))))))) pa_nil))))))
      (pss_one (ps_ret (pe_op op_add_str (pe_join pe_str (pv 1)) pe_str))))), ?_⟩
    have p := W.p
    obtain ⟨pw, ys, rfl, ew, _, ra⟩ := tup_inv W.r
    cases ra with
    | cons r1 ra =>
    cases ra with
    | cons r2 ra =>
    cases ra with
    | cons r3 ra =>
    cases ra with
    | cons r4 ra =>
    cases ra
    cases r1
    obtain ⟨pr, xs, rfl, er, _, rr⟩ := tup_inv r2
    obtain ⟨pm, ms, rfl, em, _, rrm⟩ := tup_inv r3
    obtain ⟨pt, ts, rfl, et, _, rrt⟩ := tup_inv r4
    obtain rfl := rrm.ints_inv
    obtain rfl := rrt.ints_inv
    have a0 := p.n0
    have a1 := p.n1
    have nn : NumOk n := ⟨by omega, by omega⟩
    have l4 : ("web " : Str).length ≤ 4 := by decide +kernel
    refine ⟨_, rfl, pw, _, 0, _, rfl, rfl, SqT.of ew, atI_nat (j := 0) rfl, _, rfl, nn.lg, _, _, rfl, rfl, Nat.le_trans (Nat.add_le_add l4 nn.len) (by decide), by show 1 ≤ sizeLine; decide, fun L hL => ?_⟩
    have s1 := same_upd (o := .lst [V.str (("web " : Str) ++ sn n)]) hL
    have e1 : (upd H L (.lst [V.str (("web " : Str) ++ sn n)])) L = some (.lst [V.str (("web " : Str) ++ sn n)]) := upd_same
    change gName 1 (.ref L) _ (upd H L (.lst [V.str (("web " : Str) ++ sn n)])) _
    generalize upd H L (.lst [V.str (("web " : Str) ++ sn n)]) = H1 at s1 e1 ⊢
    rw [fWeb_eq] at e1
    have hL0 := hL
    refine ⟨_, rfl, pw, _, 1, _, rfl, rfl, SqT.of (s1 _ _ ew), atI_nat (j := 1) rfl, pr, _, rfl, .inr (SqT.of (s1 _ _ er)), ?_⟩
    rw [rr.len]
    have l2 := p.l2
    refine ⟨((rds.length : Nat) : Int), rfl, by omega, by omega, for_range (lo := 0) (n := ((rds.length : Nat) : Int).toNat) (fun i σ' H' => ∃ (o2 o3 o4 : Option V), σ' = [some (.ref pw), some (.ref L), o2, o3, o4] ∧ Same H H' ∧ H' L = some (.lst ((fWeb n :: (List.range i).map (roadS rds rm tm)).map V.str)))
      ⟨_, _, _, rfl, s1, e1⟩ ?_ ?_⟩
    · rintro i σ' H2 hi ⟨o2, o3, o4, rfl, s2, eL⟩
      rw [Int.zero_add]
      have hi : i < rds.length := by omega
      obtain ⟨q, b, e, x1, x2, x3, x4⟩ := rr.road p.all hi
      have hrr : i < rm.length := by rw [p.lr]; exact hi
      have htt : i < tm.length := by rw [p.lt]; exact hi
      have ew2 := s2 _ _ ew
      have er2 := s2 _ _ er
      refine ⟨_, rfl, pw, _, 1, _, rfl, rfl, SqT.of ew2, atI_nat (j := 1) rfl, _, rfl, pr, _, _, _, rfl, rfl, SqT.of er2, atI_nat x1, q, _, 0, _, rfl, rfl, SqT.of (s2 _ _ x2), atI_nat (j := 0) rfl, ?_⟩
      refine ⟨_, rfl, pw, _, 1, _, rfl, rfl, SqT.of ew2, atI_nat (j := 1) rfl, _, rfl, pr, _, _, _, rfl, rfl, SqT.of er2, atI_nat x1, q, _, 1, _, rfl, rfl, SqT.of (s2 _ _ x2), atI_nat (j := 1) rfl, ?_⟩
      refine ⟨_, rfl, pw, _, 2, _, rfl, rfl, SqT.of ew2, atI_nat (j := 2) rfl, _, rfl, pm, _, _, _, rfl, rfl, SqT.of (s2 _ _ em), atI_nat (by rw [List.getElem?_map, List.getElem?_eq_getElem hrr]; rfl), ?_⟩
      refine ⟨_, rfl, pw, _, 3, _, rfl, rfl, SqT.of ew2, atI_nat (j := 3) rfl, _, rfl, pt, _, _, _, rfl, rfl, SqT.of (s2 _ _ et), atI_nat (by rw [List.getElem?_map, List.getElem?_eq_getElem htt]; rfl), by show 4 ≤ sizeLine; decide, fun N hN => ?_⟩
      have s3 := same_upd (o := .lst [V.int b, .int e, .int rm[i], .int tm[i]]) hN
      have e3 : (upd H2 N (.lst [V.int b, .int e, .int rm[i], .int tm[i]])) N = some (.lst ([b, e, rm[i], tm[i]].map V.int)) := upd_same
      change gName 3 (.ref N) _ (upd H2 N (.lst [V.int b, .int e, .int rm[i], .int tm[i]])) _
      generalize upd H2 N (.lst [V.int b, .int e, .int rm[i], .int tm[i]]) = H3 at s3 e3 ⊢
      have hns : ∀ z ∈ [b, e, rm[i], tm[i]], NumOk z := by
        have hbe := List.all_eq_true.mp p.all rds[i] (List.getElem_mem hi)
        obtain ⟨b', e', ed, q1, q2, q3, q4, _⟩ := be_full hbe
        have eg : rds.getD i .non = .tup [.int b', .int e'] := by rw [List.getD_eq_getElem?_getD, List.getElem?_eq_getElem hi]; exact ed
        rw [eg] at x3 x4
        obtain rfl : b' = b := x3
        obtain rfl : e' = e := x4
        have br := p.br rm[i] (List.getElem_mem hrr)
        have bt := p.bt tm[i] (List.getElem_mem htt)
        intro z hz
        simp only [List.mem_cons, List.not_mem_nil, or_false] at hz
        rcases hz with rfl | rfl | rfl | rfl
        · exact ⟨q1, by omega⟩
        · exact ⟨q3, by omega⟩
        · exact ⟨by omega, by omega⟩
        · exact ⟨by omega, by omega⟩
      have ers : roadS rds rm tm i = Txt.join " " (("road" : Str) :: [b, e, rm[i], tm[i]].map sn) := by
        unfold roadS
        rw [x3, x4, List.getD_eq_getElem?_getD, List.getElem?_eq_getElem hrr, List.getD_eq_getElem?_getD, List.getElem?_eq_getElem htt, fRoad_join]
        rfl
      have hl4 : [b, e, rm[i], tm[i]].length = 4 := rfl
      generalize [b, e, rm[i], tm[i]] = ns at *
      have eL3 := s3 _ _ eL
      refine ⟨_, rfl, .inl ⟨rfl, _, SqL.of eL3⟩, ⟨_, rfl⟩, by show 1 ≤ sizeLine; decide, fun A1 hA1 => ?_⟩
      have s4 := same_upd (o := .lst [V.str "road"]) hA1
      have e4 : (upd H3 A1 (.lst [V.str "road"])) A1 = some (.lst [V.str "road"]) := upd_same
      change tLc _ _ _ _ _ _ (upd H3 A1 (.lst [V.str "road"])) _
      generalize upd H3 A1 (.lst [V.str "road"]) = H4 at s4 e4 ⊢
      have eN4 := s4 _ _ e3
      refine ⟨_, rfl, N, rfl, ⟨_, SqL.of eN4⟩, fun M hM => ?_⟩
      refine lc_list (K := K) (a := N) (xs := ns.map V.int) (fun j H' => Same H4 H' ∧ H' M = some (.lst (((ns.take j).map sn).map V.str))) ⟨same_upd hM, upd_same⟩ (fun j H' _ ⟨z, _⟩ => SqL.of (z _ _ eN4)) ?_ ?_
      · rintro j v H5 hv ⟨s5, eM⟩
        obtain ⟨z, ez, rfl⟩ := map_get hv
        have hz := hns z (List.mem_of_getElem? ez)
        refine ⟨rfl, tyes ⟨_, rfl, _, rfl, hz.lg, _, eM, ?_, same_putX s5 hM, ?_⟩⟩
        · rw [List.length_map, List.length_map, List.length_take]; exact line_lt (by omega)
        · rw [upd_same, take_more ez, List.map_append, List.map_append]; rfl
      · rintro H5 ⟨s5, eM⟩
        rw [List.length_map, List.take_length] at eM
        refine ⟨A1, M, _, _, rfl, rfl, s5 _ _ e4, eM, ?_, fun C hC => ⟨_, C, ("road" : Str) :: ns.map sn, rfl, rfl, .inl (SqL.of (by rw [upd_same]; rfl)), ?_, ?_⟩⟩
        · rw [List.length_map, List.length_map]; exact line_le (by show 1 + ns.length ≤ _; omega)
        · have hw : ∀ w ∈ ("road" : Str) :: ns.map sn, w.length ≤ 12 := by
            intro w hw
            rcases List.mem_cons.mp hw with rfl | hw
            · exact Nat.le_trans (show ("road" : Str).length ≤ 4 by decide +kernel) (by decide)
            · obtain ⟨z, hz, rfl⟩ := List.mem_map.mp hw
              exact (hns z hz).len
          have h1 := join_le (y := " ") hw (m := 5) (by rw [List.length_cons, List.length_map]; omega)
          have h2 : (("road" : Str) :: ns.map sn).length * (" " : Str).length ≤ 5 * 1 := Nat.mul_le_mul (by rw [List.length_cons, List.length_map]; omega) l1s
          exact Nat.le_trans (Nat.add_le_add h1 h2) (by decide)
        · have eL5 := s5 _ _ (s4 _ _ eL3)
          have nLC := ne_of_none eL5 hC
          refine ⟨L, _, _, rfl, rfl, (upd_ne nLC).trans eL5, ?_, _, _, _, rfl, ?_, ?_⟩
          · rw [List.length_map, List.length_cons, List.length_map, List.length_range]; exact line_lt (by omega)
          · exact same_putX ((((s2.trans s3).trans s4).trans s5).trans (same_upd hC)) hL
          · rw [upd_same, List.range_succ, List.map_append, List.map_cons, List.map_cons, List.map_append, List.map_cons, List.map_nil, ers]
            rfl
    · rintro σ' H2 ⟨o2, o3, o4, rfl, s2, eL⟩
      rw [Int.toNat_natCast] at eL
      have hne : fWeb n :: (List.range rds.length).map (roadS rds rm tm) ≠ [] := by simp
      obtain ⟨hw, hm⟩ := webLs_short p
      unfold webLs at hw hm
      have hc := closed_len hw hm
      rw [← join_closed hne, len_app] at hc
      have hj := join_closed hne
      have hz : webS n rds rm tm = closedS (fWeb n :: (List.range rds.length).map (roadS rds rm tm)) := rfl
      rw [hz] at k
      generalize fWeb n :: (List.range rds.length).map (roadS rds rm tm) = ws at *
      have l1 : ("\n" : Str).length = 1 := by decide +kernel
      have h1 := join_le (y := "\n") hw hm
      refine ⟨⟨_, rfl⟩, _, rfl, _, L, _, rfl, rfl, .inl (SqL.of eL), ?_, _, _, rfl, rfl, ?_, ?_⟩
      · rw [l1]; omega
      · rw [sizeLine_eq]; omega
      · rw [hj]
        exact k H2 s2
end
end Hc


set_option Elab.async false
set_option linter.all false
set_option pp.maxSteps 900
set_option maxRecDepth 100000
set_option maxHeartbeats 4000000
set_option autoImplicit false
namespace Hc
open PySem L2
/-- the number of a word, as the law reads it -/
def lnum (x : Str) : Int := if isNumS x = true then numOf x else -1
theorem numOf_pos (x : Str) : 0 ≤ numOf x := Int.natCast_nonneg _
theorem lnum_neg {x : Str} : lnum x < 0 ↔ isNumS x = false := by
  unfold lnum
  have := numOf_pos x
  cases h : isNumS x with
  | true => rw [if_pos rfl]; constructor
            · intro z; omega
            · intro z; cases z
  | false => rw [if_neg (by decide)]; simp
section
variable {P : Program} {w : World} {K : PySem.W.Frag} {mg : Str → Option Value} {base : Heap}
def spLNum : Sp := fun vs H Q _ => ∃ (x : Str), vs = [.str x] ∧ x.length ≤ 9000 ∧ ∀ H', Same H H' → Q (.int (lnum x)) H'
theorem ok__law_number (T : Tx K mg) : FnOk P w K mg base CX0 1 T._law_number.f T._law_number.fd ["_law_word"] spLNum := by
  refine T._law_number.F.ok sc_law_number (fun vs H Q E h => ?_) (fun cdv A outer s H vs Q E hr h => ?_)
  · obtain ⟨x, rfl, _⟩ := h
    rfl
  · obtain ⟨x, rfl, hx, k⟩ := h
    refine ⟨_, (pss_cons (ps_if (PW.pt (pw_or (pt_not (pt_chain op_le op_le pe_int (pe_callB call_len_str (by rfl) T.n_len (by decide +kernel) (pa_cons (pv 0) pa_nil)) pe_int)) (pw_or1 (pt_cmpR op_gt (pe_callB call_len_seq (by rfl) T.n_len (by decide +kernel) (pa_cons (pe_lc (own := [("_law_sign", 1)]) (g := (gName 1))  rfl sc_law_number.nd (pi_str (pv 0)) (blkOk_by (own := [("_law_sign", 1)]) (N := ["_law_word", "_law_sign"]) (sc := defScope s_law_number) (by decide +kernel)) (fun _ _ _ _ _ => (pg_name (i := 1) sc_law_number.nd rfl (Or.inl rfl))) (fun _ _ _ _ _ => (pts_one (by exact (pt_cmpR op_notIn_sign (pv 1) pe_str (by rfl))))) (fun _ _ _ _ _ => (by exact (pv 1)))) pa_nil)) pe_int (nomark _)))))
      (pss_one (ps_ret (pe_un un_neg pe_int)))
      pss_nil)
      (pss_cons (ps_if (PW.pt (pw_and (pt_cmpR op_gt (pe_callB call_len_str (by rfl) T.n_len (by decide +kernel) (pa_cons (pv 0) pa_nil)) pe_int (nomark _)) (pw_and1 (pt_cmpR op_eq (pe_ix ix_str (pv 0) pe_int (fun _ _ => rfl)) pe_str (nomark _)))))
      (pss_one (ps_ret (pe_un un_neg pe_int)))
      pss_nil)
      (pss_one (ps_ret (pe_callTy call_int_str (by rfl) T.n_int (by decide +kernel) (pa_cons (pv 0) pa_nil)))))), ?_⟩
    have gen : ∀ i, lnum x = i → ∀ H', Same H H' → Q (.int i) H' := fun i e H' s => e ▸ k H' s
    have neg : isNumS x = false → ∀ H', Same H H' → Q (.int (-1)) H' := fun e H' s => gen (-1) (by unfold lnum; rw [e]; rfl) H' s
    refine ⟨_, rfl, x, rfl, line_le (by omega), _, _, rfl, rfl, _, rfl, ?_⟩
    by_cases h1 : (1 : Int) ≤ (x.length : Int)
    · rw [decide_eq_true h1]
      refine iteT ⟨_, _, rfl, rfl, _, rfl, ?_⟩
      by_cases h2 : (x.length : Int) ≤ 9
      · rw [decide_eq_true h2]
        refine iteF ⟨_, rfl, x, rfl, fun D hD => ?_⟩
        refine lc_str (x := x) (fun i H' => Same H H' ∧ ∃ zs : List V, H' D = some (.lst zs) ∧ (zs.length = 0 ↔ ∀ c ∈ x.cps.toList.take i, c ∈ FIG) ∧ zs.length ≤ i) ⟨same_upd hD, [], upd_same, by simp, Nat.le_refl _⟩ ?_ ?_
        · rintro i c H2 hc ⟨s2, zs, eD, hz, lz⟩
          have hc' : x.cps.toList[i]? = some c := by rw [Array.getElem?_toList]; exact hc
          have hi : i < x.cps.size := (Array.getElem?_eq_some_iff.mp hc).1
          refine ⟨rfl, _, rfl, c, ("0123456789" : Str), rfl, rfl, _, rfl, ?_⟩
          rw [take_more hc']
          by_cases hm : c ∈ ("0123456789" : Str).cps.toList
          · rw [decide_eq_true hm]
            refine iteF ⟨s2, zs, eD, ?_, by omega⟩
            rw [hz]
            constructor
            · intro h c' hc'
              rcases List.mem_append.mp hc' with h' | h'
              · exact h c' h'
              · rw [List.mem_singleton.mp h']; exact hm
            · intro h c' hc'
              exact h c' (List.mem_append_left _ hc')
          · rw [decide_eq_false hm]
            refine iteT ⟨_, rfl, zs, eD, ?_, same_putX s2 hD, _, upd_same, ?_, by rw [List.length_append, List.length_singleton]; omega⟩
            · have : x.cps.size = x.length := rfl
              exact line_lt (by omega)
            · rw [List.length_append, List.length_singleton]
              constructor
              · intro z; omega
              · intro h
                exact absurd (h c (List.mem_append_right _ (List.mem_singleton.mpr rfl))) hm
        · rintro H2 ⟨s2, zs, eD, hz, lz⟩
          have ee : x.cps.size = x.cps.toList.length := (Array.length_toList).symm
          rw [ee, List.take_length] at hz
          refine ⟨D, _, rfl, .inl (SqL.of eD), _, _, rfl, rfl, _, rfl, ?_⟩
          by_cases h3 : (0 : Int) < (zs.length : Nat)
          · rw [decide_eq_true h3]
            refine iteT ⟨1, rfl, neg ?_ H2 s2⟩
            cases hn : isNumS x with
            | false => rfl
            | true =>
              have := hz.mpr fun c hc => mem_fig.mpr (num_digits hn c hc)
              omega
          · rw [decide_eq_false h3]
            have hall := hz.mp (by omega)
            refine iteF ?_
            have hdig : ((TL.tl x).map fun c => decide (c ∈ FIG)).all id = true := by
              rw [List.all_eq_true]
              intro v hv
              obtain ⟨c, hc, rfl⟩ := List.mem_map.mp hv
              exact decide_eq_true (hall c hc)
            have hx1 : 0 < x.cps.toList.length := by rw [Array.length_toList]; show 0 < x.length; omega
            obtain ⟨c0, r0, ex⟩ : ∃ c r, TL.tl x = c :: r := by
              cases q : TL.tl x with
              | nil => rw [show x.cps.toList = [] from q] at hx1; simp at hx1
              | cons c r => exact ⟨c, r, rfl⟩
            have e3 : isNumS x = (decide (V.str x = V.str "0") || !Txt.startswith x "0") := by
              unfold isNumS
              rw [hdig, decide_eq_true h1, decide_eq_true h2]
              simp
            have fin : isNumS x = true → ∃ a n, [V.str x] = [V.str a] ∧ intText? a = some n ∧ a.length ≤ 640 ∧ Q (V.int n) H2 := fun hn => ⟨x, numOf x, rfl, num_int hn, by omega, gen _ (by unfold lnum; rw [hn]; rfl) H2 s2⟩
            refine ⟨_, rfl, x, rfl, line_le (by omega), _, _, rfl, rfl, _, rfl, ?_⟩
            by_cases h4 : (1 : Int) < (x.length : Int)
            · rw [decide_eq_true h4]
              have ne0 : decide (V.str x = V.str "0") = false := by
                rw [decide_eq_false_iff_not]
                intro z
                have z := V.str.inj z
                rw [z] at h4
                exact absurd h4 (by decide +kernel)
              refine iteT ⟨_, rfl, x, 0, c0, rfl, rfl, line_le (by omega), by show atI (TL.tl x) 0 = some c0; rw [ex]; exact atI_nat (j := 0) rfl, rfl, _, rfl, ?_⟩
              have e0 : ("0" : Str) = ⟨#[48]⟩ := by decide +kernel
              by_cases h5 : c0 = 48
              · have : decide (V.str (⟨#[c0]⟩ : Str) = V.str "0") = true := by rw [h5, e0]; exact decide_eq_true rfl
                rw [this]
                refine iteT ⟨1, rfl, neg ?_ H2 s2⟩
                rw [e3, ne0, (sw_zero x).mpr ⟨r0, by rw [ex, h5]⟩]; rfl
              · have : decide (V.str (⟨#[c0]⟩ : Str) = V.str "0") = false := by
                  rw [decide_eq_false_iff_not, e0]
                  intro z
                  have z := V.str.inj z
                  injection z with z
                  have z := congrArg Array.toList z
                  simp at z
                  exact h5 z
                rw [this]
                refine iteF ⟨_, rfl, fin ?_⟩
                rw [e3, ne0]
                cases q : Txt.startswith x "0" with
                | false => rfl
                | true =>
                  obtain ⟨r, er⟩ := (sw_zero x).mp q
                  rw [ex] at er
                  injection er with e1 e2
                  exact absurd e1 h5
            · rw [decide_eq_false h4]
              refine iteF ⟨_, rfl, fin ?_⟩
              rw [e3]
              cases q : Txt.startswith x "0" with
              | false => simp
              | true =>
                obtain ⟨r, er⟩ := (sw_zero x).mp q
                have hl : (TL.tl x).length = x.length := (TL.len_tl x).symm
                rw [er, List.length_cons] at hl
                have hr : r = [] := List.eq_nil_of_length_eq_zero (by omega)
                have : x = "0" := TL.ext_tl (by rw [er, hr]; decide +kernel)
                rw [this]; rfl
      · rw [decide_eq_false h2]
        refine iteT (iteT ⟨1, rfl, neg ?_ H (Same.refl H)⟩)
        unfold isNumS
        rw [decide_eq_false h2, Bool.and_false, Bool.false_and, Bool.false_and]
    · rw [decide_eq_false h1]
      refine iteF ⟨_, rfl, iteT (iteT ⟨1, rfl, neg ?_ H (Same.refl H)⟩)⟩
      unfold isNumS
      rw [decide_eq_false h1, Bool.false_and, Bool.false_and, Bool.false_and]
end
end Hc


set_option Elab.async false
set_option linter.all false
set_option pp.maxSteps 900
set_option maxRecDepth 100000
set_option maxHeartbeats 4000000
set_option autoImplicit false
namespace Hc
open PySem L2
def WORDS : List Str := ["web", "road", "letter"]
/-- a line, as the law reads it -/
def llineB (line : Str) : Bool := decide (wordOf line ∈ WORDS) && isFormS (wordOf line) (restOf line)
def lline (line : Str) : Option (Str × List Int) := if llineB line = true then some (rowOf line) else none
def LRow (H : Hp) (v : V) : Option (Str × List Int) → Prop
  | none => v = .non
  | some r => RowAt H v r
theorem LRow.same {H H' : Hp} {v : V} {o : Option (Str × List Int)} (x : LRow H v o) (s : Same H H') : LRow H' v o := by
  cases o with
  | none => exact x
  | some r => exact RowAt.same x s
/-- a row that is new -/
def LRowF (H H' : Hp) (v : V) : Option (Str × List Int) → Prop
  | none => v = .non
  | some r => ∃ q l, v = .ref q ∧ H' q = some (.tup [.str r.1, .ref l]) ∧ H' l = some (.lst (r.2.map V.int)) ∧ H q = none ∧ H l = none
theorem LRowF.row {H H' : Hp} {v : V} {o : Option (Str × List Int)} (x : LRowF H H' v o) : LRow H' v o := by
  cases o with
  | none => exact x
  | some r => obtain ⟨q, l, a, b, c, _⟩ := x; exact ⟨q, l, a, b, c⟩
theorem form_num {w : Str} {ws : List Str} (h : ws.all isNumS = false) : isFormS w ws = false := by unfold isFormS; rw [h]; rfl
theorem lnums {ws : List Str} (h : ∀ x ∈ ws, isNumS x = true) : ws.map lnum = ws.map numOf := List.map_congr_left fun x hx => by unfold lnum; rw [h x hx]; rfl
theorem none_of {H H' : Hp} (s : Same H H') {a : Addr} (h : H' a = none) : H a = none := by
  cases q : H a with
  | none => rfl
  | some o => rw [s _ _ q] at h; cases h
theorem cut_tail (a : V) (L : List V) : cutV (a :: L) (some 1) none = L := by
  unfold cutV
  have s1 : HT.sIx (L.length + 1) 0 (some (1 : Int)) = 1 := by
    show (if (1 : Int) < 0 then ((1 : Int) + ((L.length + 1 : Nat) : Int)).toNat else min (1 : Int).toNat (L.length + 1)) = 1
    rw [if_neg (by decide)]
    show min 1 _ = 1
    omega
  have s2 : HT.sIx (L.length + 1) (L.length + 1) none = L.length + 1 := rfl
  rw [List.length_cons, s1, s2]
  show L.take _ = L
  exact List.take_of_length_le (by omega)
def fitsB (b1 b2 b3 : Bool) (m : Nat) : Bool := if b3 = true then (decide ((2 : Int) < (m : Nat)) && decide ((m : Nat) % 2 = 1)) else ((b1 && decide (((m : Nat) : Int) = 1)) || (b2 && decide (((m : Nat) : Int) = 4)))
theorem words_mem {w : Str} : decide (w ∈ WORDS) = (decide (V.str w = V.str "web") || decide (V.str w = V.str "road") || decide (V.str w = V.str "letter")) := by
  have key : ∀ a : Str, decide (V.str w = V.str a) = decide (w = a) := fun a => by
    rw [Bool.eq_iff_iff, decide_eq_true_iff, decide_eq_true_iff]
    exact ⟨V.str.inj, fun z => by rw [z]⟩
  rw [key, key, key, Bool.eq_iff_iff]
  unfold WORDS
  simp only [List.mem_cons, List.not_mem_nil, or_false, decide_eq_true_iff, Bool.or_eq_true]
  exact ⟨fun z => by rcases z with z | z | z <;> simp [z], fun z => by rcases z with (z | z) | z <;> simp [z]⟩
theorem lline_fits {x : Str} (h : (restOf x).all isNumS = true) : llineB x = fitsB (decide (V.str (wordOf x) = V.str "web")) (decide (V.str (wordOf x) = V.str "road")) (decide (V.str (wordOf x) = V.str "letter")) (restOf x).length := by
  have ne1 : decide (V.str "letter" = V.str "web") = false := by decide +kernel
  have ne2 : decide (V.str "road" = V.str "web") = false := by decide +kernel
  unfold llineB isFormS fitsB
  rw [words_mem, h, if_neg (by decide)]
  cases h3 : decide (V.str (wordOf x) = V.str "letter") with
  | true =>
    rw [Bool.or_true, Bool.true_and, if_pos rfl, if_pos rfl]
    generalize (restOf x).length = m
    rw [Bool.eq_iff_iff]
    simp only [Bool.and_eq_true, decide_eq_true_iff]
    omega
  | false =>
    simp only [Bool.false_eq_true, if_false, Bool.or_false]
    cases h1 : decide (V.str (wordOf x) = V.str "web") with
    | true =>
      have e1 := V.str.inj (of_decide_eq_true h1)
      have h2 : decide (V.str (wordOf x) = V.str "road") = false := by rw [e1]; decide +kernel
      rw [h2]
      simp
    | false =>
      cases h2 : decide (V.str (wordOf x) = V.str "road") with
      | true => simp
      | false => simp
section
variable {P : Program} {w : World} {K : PySem.W.Frag} {mg : Str → Option Value} {base : Heap}
def spLLine : Sp := fun vs H Q _ => ∃ (x : Str), vs = [.str x] ∧ x.length ≤ 9000 ∧ ∀ v H', Same H H' → LRowF H H' v (lline x) → Q v H'
theorem ok__law_line (T : Tx K mg) : FnOk P w K mg base CX0 2 T._law_line.f T._law_line.fd ["_law_line_here"] spLLine := by
  refine T._law_line.F.ok sc_law_line (fun vs H Q E h => ?_) (fun cdv A outer s H vs Q E hr h => ?_)
  · obtain ⟨x, rfl, _⟩ := h
    rfl
  · obtain ⟨x, rfl, hx, k⟩ := h
    refine ⟨_, (pss_cons (ps_set (i := 1) sc_law_line.nd rfl (Or.inl rfl) (pe_split (pv 0) pe_str))
      (pss_cons (ps_setLc (i := 2) (own := [("_law_word", 5)]) (g := (gName 5)) (tt := tYes) rfl sc_law_line.nd rfl rfl (sw_true rfl rfl rfl (by decide +kernel)) (pi_list (pe_slice sl_list (pv 1) (po_some pe_int) po_none)) (blkOk_by (own := [("_law_word", 5)]) (N := ["_law_line_here", "_law_words", "_law_numbers", "_law_many", "_law_fits", "_law_word", "_law_number_here"]) (sc := defScope s_law_line) (by decide +kernel)) (fun _ _ _ _ _ => (pg_name (i := 5) sc_law_line.nd rfl (Or.inl rfl))) (fun _ _ _ _ _ => pts_nil) (fun _ _ _ _ _ => (by exact (pe_call (ok__law_number T) (hr.mono (by decide)) rfl T._law_number.g T._law_number.F.kp T._law_number.b .nil pass0 (pa_cons (pv 5) pa_nil)))))
      (pss_cons (ps_if (pt_cmpR op_gt (pe_callB call_len_seq (by rfl) T.n_len (by decide +kernel) (pa_cons (pe_lc (own := [("_law_number_here", 6)]) (g := (gName 6))  rfl sc_law_line.nd (pi_list (pv 2)) (blkOk_by (own := [("_law_number_here", 6)]) (N := ["_law_line_here", "_law_words", "_law_numbers", "_law_many", "_law_fits", "_law_word", "_law_number_here"]) (sc := defScope s_law_line) (by decide +kernel)) (fun _ _ _ _ _ => (pg_name (i := 6) sc_law_line.nd rfl (Or.inl rfl))) (fun _ _ _ _ _ => (pts_one (by exact (pt_cmpR op_lt (pv 6) pe_int (nomark _))))) (fun _ _ _ _ _ => (by exact (pv 6)))) pa_nil)) pe_int (nomark _))
      (pss_one (ps_ret pe_non))
      pss_nil)
      (pss_cons (ps_set (i := 3) sc_law_line.nd rfl (Or.inl rfl) (pe_callB call_len_seq (by rfl) T.n_len (by decide +kernel) (pa_cons (pv 2) pa_nil)))
      (C8.pss_cut (ps_set (i := 4) sc_law_line.nd rfl (Or.inl rfl) (pe_or (pe_and (pe_cmpR op_eq (pe_ix ix_list (pv 1) pe_int (fun _ _ => rfl)) pe_str (nomark _)) (pe_one (pe_cmpR op_eq (pv 3) pe_int (nomark _)))) (pe_one (pe_and (pe_cmpR op_eq (pe_ix ix_list (pv 1) pe_int (fun _ _ => rfl)) pe_str (nomark _)) (pe_one (pe_cmpR op_eq (pv 3) pe_int (nomark _)))))))
      (C8.pss_cut (ps_if (pt_cmpR op_eq (pe_ix ix_list (pv 1) pe_int (fun _ _ => rfl)) pe_str (nomark _))
      (pss_one (ps_set (i := 4) sc_law_line.nd rfl (Or.inl rfl) (pe_and (pe_cmpR op_gt (pv 3) pe_int (nomark _)) (pe_one (pe_cmpR op_eq (pe_op op_modN (pe_callTy call_int1 (by rfl) T.n_int (by decide +kernel) (pa_cons (pv 3) pa_nil)) pe_int) pe_int (nomark _))))))
      pss_nil)
      (pss_one (ps_ret (pe_ifExp (pt_val (pv 4)) (pe_tup (pa_cons (pe_ix ix_list (pv 1) pe_int (fun _ _ => rfl)) (pa_cons (pv 2) pa_nil))) pe_non))))))))), ?_⟩
    have hw : ∀ w ∈ restOf x, w.length ≤ 9000 := fun w h => Nat.le_trans (rest_word h) (by omega)
    have hn : (restOf x).length ≤ 9001 := by
      have h1 := PyProof.Rows.split_le x " "
      rw [split_wr] at h1
      simp only [List.length_cons] at h1
      omega
    refine ⟨_, rfl, ⟨_, rfl⟩, x, _, rfl, rfl, by decide +kernel, by rw [sizeLine_eq]; omega, fun A hA => ?_⟩
    have s1 := same_upd (o := .lst ((Txt.split x " ").map V.str)) hA
    have eA : (upd H A (.lst ((Txt.split x " ").map V.str))) A = some (.lst (V.str (wordOf x) :: (restOf x).map V.str)) := by rw [upd_same, split_wr]; rfl
    change gName 1 (.ref A) _ (upd H A (.lst ((Txt.split x " ").map V.str))) _
    generalize upd H A (.lst ((Txt.split x " ").map V.str)) = H1 at s1 eA ⊢
    refine ⟨_, rfl, ?_⟩
    delta tNoPart tPart
    dsimp only
    refine ⟨_, rfl, A, _, rfl, SqL.of eA, fun B hB => ⟨B, rfl, ?_⟩⟩
    have cut : cutV (V.str (wordOf x) :: (restOf x).map V.str) (some 1) none = (restOf x).map V.str := cut_tail _ _
    rw [cut]
    have s2 := s1.trans (same_upd (o := .lst ((restOf x).map V.str)) hB)
    have eB : (upd H1 B (.lst ((restOf x).map V.str))) B = some (.lst ((restOf x).map V.str)) := upd_same
    have eA2 := same_upd (o := .lst ((restOf x).map V.str)) hB _ _ eA
    generalize upd H1 B (.lst ((restOf x).map V.str)) = H2 at s2 eB eA2 ⊢
    refine ⟨⟨_, SqL.of eB⟩, fun N hN => ?_⟩
    refine lc_list (K := K) (a := B) (xs := (restOf x).map V.str) (fun j H' => Same H2 H' ∧ H' N = some (.lst (((restOf x).take j).map fun f => V.int (lnum f)))) ⟨same_upd hN, upd_same⟩ (fun j H' _ ⟨z, _⟩ => SqL.of (z _ _ eB)) ?_ ?_
    · rintro j v H3 hv ⟨s3, eN⟩
      obtain ⟨f, ef, rfl⟩ := map_get hv
      have hm := List.mem_of_getElem? ef
      refine ⟨rfl, tyes ⟨_, rfl, f, rfl, hw f hm, fun H4 s4 => ⟨_, s4 _ _ eN, ?_, same_putX (s3.trans s4) hN, ?_⟩⟩⟩
      · rw [List.length_map, List.length_take]; exact line_lt (by omega)
      · rw [upd_same, take_more ef, List.map_append]; rfl
    rintro H3 ⟨s3, eN⟩
    rw [List.length_map, List.take_length] at eN
    have s13 := s2.trans s3
    have eA3 := s3 _ _ eA2
    refine ⟨_, rfl, N, rfl, ⟨_, SqL.of eN⟩, fun F hF => ?_⟩
    refine lc_list (K := K) (a := N) (xs := (restOf x).map fun f => V.int (lnum f)) (fun j H' => Same H3 H' ∧ ∃ zs : List V, H' F = some (.lst zs) ∧ (zs.length = 0 ↔ ∀ f ∈ (restOf x).take j, isNumS f = true) ∧ zs.length ≤ j) ⟨same_upd hF, [], upd_same, by simp, Nat.le_refl _⟩ (fun j H' _ ⟨z, _⟩ => SqL.of (z _ _ eN)) ?_ ?_
    · rintro j v H4 hv ⟨s4, zs, eF, hz, lz⟩
      obtain ⟨f, ef, rfl⟩ := map_get hv
      have hj : j < (restOf x).length := (List.getElem?_eq_some_iff.mp ef).1
      refine ⟨rfl, _, rfl, _, _, rfl, rfl, _, rfl, ?_⟩
      rw [take_more ef]
      by_cases hm : lnum f < 0
      · rw [decide_eq_true hm]
        refine iteT ⟨_, rfl, zs, eF, line_lt (by omega), same_putX s4 hF, _, upd_same, ?_, by rw [List.length_append, List.length_singleton]; omega⟩
        rw [List.length_append, List.length_singleton]
        constructor
        · intro z; omega
        · intro h
          have := h f (List.mem_append_right _ (List.mem_singleton.mpr rfl))
          rw [lnum_neg.mp hm] at this
          cases this
      · rw [decide_eq_false hm]
        refine iteF ⟨s4, zs, eF, ?_, by omega⟩
        have hf : isNumS f = true := by
          cases q : isNumS f with
          | true => rfl
          | false => exact absurd (lnum_neg.mpr q) hm
        rw [hz]
        constructor
        · intro h f' hf'
          rcases List.mem_append.mp hf' with h' | h'
          · exact h f' h'
          · rw [List.mem_singleton.mp h']; exact hf
        · intro h f' hf'
          exact h f' (List.mem_append_left _ hf')
    rintro H4 ⟨s4, zs, eF, hz, lz⟩
    rw [List.length_map, List.take_length] at hz
    rw [List.length_map] at lz
    refine ⟨F, _, rfl, .inl (SqL.of eF), _, _, rfl, rfl, _, rfl, ?_⟩
    have s14 := s13.trans s4
    by_cases h3 : (0 : Int) < (zs.length : Nat)
    · rw [decide_eq_true h3]
      refine iteT (k _ _ s14 ?_)
      have : (restOf x).all isNumS = false := by
        cases q : (restOf x).all isNumS with
        | false => rfl
        | true =>
          have := hz.mpr (List.all_eq_true.mp q)
          omega
      unfold lline llineB
      rw [form_num this, Bool.and_false]
      rfl
    rw [decide_eq_false h3]
    have hall := hz.mp (by omega)
    have hall' : (restOf x).all isNumS = true := List.all_eq_true.mpr hall
    rw [show ((restOf x).map fun f => V.int (lnum f)) = ((restOf x).map lnum).map V.int from by rw [List.map_map]; rfl, lnums hall] at eN
    have eN4 := s4 _ _ eN
    have eA4 := s4 _ _ eA3
    refine iteF ⟨_, rfl, N, _, rfl, .inl (SqL.of eN4), ?_⟩
    rw [List.length_map, List.length_map]
    have hN0 : H N = none := none_of s2 hN
    clear eF hz lz h3 hF eN eA3 eA2 eA eB hN hB hA s1 s2 s3 s4 s13 cut
    have hfit := lline_fits hall'
    generalize hm : (restOf x).length = m at *
    refine ⟨fun σ' H' => H' = H4 ∧ ∃ (o5 o6 : Option V), σ' = [some (.str x), some (.ref A), some (.ref N), some (.int (m : Nat)), some (.bl ((decide (V.str (wordOf x) = V.str "web") && decide (((m : Nat) : Int) = 1)) || (decide (V.str (wordOf x) = V.str "road") && decide (((m : Nat) : Int) = 4)))), o5, o6], ?_, ?_⟩
    · refine ⟨_, rfl, A, _, 0, _, rfl, rfl, SqL.of eA4, atI_nat (j := 0) rfl, rfl, _, rfl, ?_⟩
      cases h1 : decide (V.str (wordOf x) = V.str "web") with
      | true =>
        refine iteT ⟨_, rfl, rfl, _, rfl, ?_⟩
        rw [int_eqd]
        cases h2 : decide (((m : Nat) : Int) = 1) with
        | true => exact iteT ⟨rfl, _, _, rfl⟩
        | false =>
          refine iteF ⟨_, rfl, A, _, 0, _, rfl, rfl, SqL.of eA4, atI_nat (j := 0) rfl, rfl, _, rfl, ?_⟩
          have h3 : decide (V.str (wordOf x) = V.str "road") = false := by rw [V.str.inj (of_decide_eq_true h1)]; decide +kernel
          rw [h3]
          exact iteF ⟨rfl, _, _, rfl⟩
      | false =>
        refine iteF ⟨_, rfl, iteF ⟨_, rfl, A, _, 0, _, rfl, rfl, SqL.of eA4, atI_nat (j := 0) rfl, rfl, _, rfl, ?_⟩⟩
        cases h3 : decide (V.str (wordOf x) = V.str "road") with
        | true =>
          refine iteT ⟨_, rfl, rfl, ?_⟩
          rw [int_eqd]
          exact ⟨rfl, _, _, rfl⟩
        | false => exact iteF ⟨rfl, _, _, rfl⟩
    rintro σ' H5 ⟨rfl, o5, o6, rfl⟩
    refine ⟨fun σ' H' => H' = H5 ∧ ∃ (o5 o6 : Option V), σ' = [some (.str x), some (.ref A), some (.ref N), some (.int (m : Nat)), some (.bl (llineB x)), o5, o6], ?_, ?_⟩
    · refine ⟨_, rfl, A, _, 0, _, rfl, rfl, SqL.of eA4, atI_nat (j := 0) rfl, rfl, _, rfl, ?_⟩
      rw [hfit]
      unfold fitsB
      cases h3 : decide (V.str (wordOf x) = V.str "letter") with
      | false =>
        refine iteF ?_
        simp only [Bool.false_eq_true, if_false]
        exact ⟨rfl, _, _, rfl⟩
      | true =>
        refine iteT ?_
        simp only [if_true]
        refine ⟨_, rfl, _, _, rfl, rfl, _, rfl, ?_⟩
        cases h4 : decide ((2 : Int) < (m : Nat)) with
        | false => exact iteF ⟨rfl, _, _, rfl⟩
        | true =>
          refine iteT ⟨_, rfl, .inl ⟨_, rfl, _, _, rfl, rfl, (show (2 : Int) ≠ 0 by decide), rfl, ?_⟩⟩
          rw [int_eqd]
          have : decide ((((m : Nat) : Int)).fmod 2 = 1) = decide (m % 2 = 1) := by
            rw [Int.fmod_eq_emod_of_nonneg _ (by decide), Bool.eq_iff_iff, decide_eq_true_iff, decide_eq_true_iff]
            omega
          rw [this]
          exact ⟨rfl, o5, o6, rfl⟩
    rintro σ' H6 ⟨rfl, o5, o6, rfl⟩
    refine ⟨_, rfl, _, rfl, ?_⟩
    cases hB : llineB x with
    | false =>
      refine iteF (k _ _ s14 ?_)
      unfold lline; rw [hB]; rfl
    | true =>
      refine iteT ⟨_, rfl, A, _, 0, _, rfl, rfl, SqL.of eA4, atI_nat (j := 0) rfl, _, rfl, by show 2 ≤ sizeLine; decide, fun q hq => k _ _ (s14.trans (same_upd hq)) ?_⟩
      unfold lline; rw [hB]
      exact ⟨q, N, rfl, upd_same, same_upd hq _ _ eN4, none_of s14 hq, hN0⟩
end
end Hc


set_option Elab.async false
set_option linter.all false
set_option pp.maxSteps 900
set_option maxRecDepth 100000
set_option maxHeartbeats 4000000
set_option autoImplicit false
namespace Hc
open PySem L2
/-! ### answers of tests, whatever is laid meanwhile -/
def AnsA (t : TT) (σ : St) (H : Hp) (b : Bool) : Prop := ∀ H1, Same H H1 → ∀ Q : Bool → Hp → Prop, (∀ H2, Same H1 H2 → Q b H2) → t σ H1 Q
section
variable {σ : St} {H : Hp} {t u : TT} {b1 b2 : Bool}
theorem ansA_and (h1 : AnsA t σ H b1) (h2 : AnsA u σ H b2) : AnsA (tAnd t u) σ H (b1 && b2) := by
  intro H1 s1 Q q
  refine h1 H1 s1 _ fun H2 s2 => ?_
  cases b1 with
  | true => exact iteT (h2 H2 (s1.trans s2) _ fun H3 s3 => q H3 (s2.trans s3))
  | false => exact iteF (q H2 s2)
theorem ansA_or (h1 : AnsA t σ H b1) (h2 : AnsA u σ H b2) : AnsA (tOr t u) σ H (b1 || b2) := by
  intro H1 s1 Q q
  refine h1 H1 s1 _ fun H2 s2 => ?_
  cases b1 with
  | true => exact iteT (q H2 s2)
  | false => exact iteF (h2 H2 (s1.trans s2) _ fun H3 s3 => q H3 (s2.trans s3))
theorem ansA_eq {i : Nat} {x y : V} (h : σ[i]? = some (some x)) (hs : scal x y = true) : AnsA (tTest (tOp rEq (tVar i) (tC y))) σ H (decide (x = y)) :=
  fun H1 s1 Q q => ⟨x, h, hs, _, rfl, q H1 (Same.refl _)⟩
theorem ansA_in {K : PySem.W.Frag} {i : Nat} {x y z : V} (h : σ[i]? = some (some x)) (fx : flatV x = true) (fy : flatV y = true) (fz : flatV z = true) : AnsA (tTest (tOp (rIn K false) (tVar i) (tLst (tCons (tC y) (tCons (tC z) tNil))))) σ H (inV x [y, z]) :=
  fun H1 s1 Q q => ⟨x, h, by show 2 ≤ sizeLine; decide, fun p hp => ⟨p, [y, z], rfl, .inl (SqL.of upd_same), fx, by rw [List.all_cons, List.all_cons, fy, fz]; rfl, _, rfl, q _ (same_upd hp)⟩⟩
theorem ansA_val {i : Nat} {b : Bool} (h : σ[i]? = some (some (.bl b))) : AnsA (tB (tVar i)) σ H b := fun H1 s1 Q q => ⟨_, h, _, rfl, q H1 (Same.refl _)⟩
end
/-! ### the stages -/
def wsB (b : Bool) : List Str := if b = true then ["web", "road", "letter"] else ["web", "road"]
def stg (l : Str) : Int := if l = "" then 0 else if l = "web" then 1 else if l = "road" then 2 else 3
theorem stg0 : stg "" = 0 := by decide +kernel
theorem stg1 : stg "web" = 1 := by decide +kernel
theorem stg2 : stg "road" = 2 := by decide +kernel
theorem stg3 : stg "letter" = 3 := by decide +kernel
def T1 (st : Int) (w : Str) : Bool := decide (V.int st = V.int 0) && decide (V.str w = V.str "web")
def T2 (st : Int) (w : Str) : Bool := inV (.int st) [.int 1, .int 2] && decide (V.str w = V.str "road")
def T3 (b : Bool) (st : Int) (w : Str) : Bool := b && (inV (.int st) [.int 2, .int 3] && decide (V.str w = V.str "letter"))
theorem table (b : Bool) {last w : Str} (hl : last ∈ KEYS) (hw : w ∈ WORDS) (hb : last = "letter" → b = true) :
    (inV (.str w) ((wsB b).map V.str) && inV (.str w) ((behindS last).map V.str)) = (T1 (stg last) w || (T2 (stg last) w || T3 b (stg last) w)) := by
  unfold KEYS at hl
  unfold WORDS at hw
  simp only [List.mem_cons, List.not_mem_nil, or_false] at hl hw
  cases b <;> rcases hl with rfl | rfl | rfl | rfl <;> rcases hw with rfl | rfl | rfl <;> first | decide +kernel | exact absurd (hb rfl) (by decide)
def wordL (line : Str) : Str := match lline line with | none => "none" | some r => r.1
theorem wordL_of {line : Str} (h : llineB line = true) : wordL line = wordOf line := by unfold wordL lline; rw [h]; rfl
theorem wordL_no {line : Str} (h : llineB line = false) : wordL line = "none" := by unfold wordL lline; rw [h]; rfl
theorem none_T (b : Bool) (st : Int) : T1 st "none" = false ∧ T2 st "none" = false ∧ T3 b st "none" = false := by
  have h1 : decide (V.str "none" = V.str "web") = false := by decide +kernel
  have h2 : decide (V.str "none" = V.str "road") = false := by decide +kernel
  have h3 : decide (V.str "none" = V.str "letter") = false := by decide +kernel
  unfold T1 T2 T3
  rw [h1, h2, h3]
  simp
theorem step_ok (b : Bool) {last line : Str} (hl : last ∈ KEYS) (hb : last = "letter" → b = true) : okLine (wsB b) last line = (T1 (stg last) (wordL line) || (T2 (stg last) (wordL line) || T3 b (stg last) (wordL line))) := by
  cases h : llineB line with
  | true =>
    rw [wordL_of h]
    unfold llineB at h
    rw [Bool.and_eq_true] at h
    have hw := of_decide_eq_true h.1
    rw [← table b hl hw hb]
    unfold okLine
    rw [h.2, Bool.and_true]
  | false =>
    obtain ⟨n1, n2, n3⟩ := none_T b (stg last)
    rw [wordL_no h, n1, n2, n3]
    cases q : okLine (wsB b) last line with
    | false => rfl
    | true =>
      have h1 := ok_key q
      have h2 := ok_form q
      unfold llineB at h
      rw [h2, decide_eq_true (show wordOf line ∈ WORDS from h1)] at h
      cases h
theorem T_word {b : Bool} {st : Int} {line : Str} : (T1 st (wordL line) = true → wordOf line = "web") ∧ (T2 st (wordL line) = true → wordOf line = "road") ∧ (T3 b st (wordL line) = true → wordOf line = "letter" ∧ b = true) := by
  have key : ∀ w : Str, w ∈ WORDS → wordL line = w → wordOf line = w := by
    intro w hw e
    cases h : llineB line with
    | true => rw [wordL_of h] at e; exact e
    | false =>
      rw [wordL_no h] at e
      rw [← e] at hw
      exact absurd hw (by decide +kernel)
  refine ⟨fun h => ?_, fun h => ?_, fun h => ?_⟩
  · unfold T1 at h
    rw [Bool.and_eq_true] at h
    exact key _ (by decide +kernel) (key_str h.2)
  · unfold T2 at h
    rw [Bool.and_eq_true] at h
    exact key _ (by decide +kernel) (key_str h.2)
  · unfold T3 at h
    rw [Bool.and_eq_true, Bool.and_eq_true] at h
    exact ⟨key _ (by decide +kernel) (key_str h.2.2), h.1⟩
/-- a row apart from N -/
def LRowM (N : Addr) (H' : Hp) (v : V) : Option (Str × List Int) → Prop
  | none => v = .non
  | some r => ∃ q l, v = .ref q ∧ H' q = some (.tup [.str r.1, .ref l]) ∧ H' l = some (.lst (r.2.map V.int)) ∧ q ≠ N ∧ l ≠ N
theorem LRowM.row {N : Addr} {H' : Hp} {v : V} {o : Option (Str × List Int)} (x : LRowM N H' v o) : LRow H' v o := by
  cases o with
  | none => exact x
  | some r => obtain ⟨q, l, a, b, c, _⟩ := x; exact ⟨q, l, a, b, c⟩
theorem LRowM.same {N : Addr} {H H' : Hp} {v : V} {o : Option (Str × List Int)} (x : LRowM N H v o) (s : Same H H') : LRowM N H' v o := by
  cases o with
  | none => exact x
  | some r => obtain ⟨q, l, a, b, c, d, e⟩ := x; exact ⟨q, l, a, s _ _ b, s _ _ c, d, e⟩
theorem LRowM.upd {N : Addr} {H : Hp} {v : V} {o : Option (Str × List Int)} (x : LRowM N H v o) (o' : HO) : LRowM N (L2.upd H N o') v o := by
  cases o with
  | none => exact x
  | some r => obtain ⟨q, l, a, b, c, d, e⟩ := x; exact ⟨q, l, a, (upd_ne d).trans b, (upd_ne e).trans c, d, e⟩
theorem LRowF.m {N : Addr} {H H' : Hp} {v : V} {o : Option (Str × List Int)} (x : LRowF H H' v o) {oN : HO} (hN : H N = some oN) : LRowM N H' v o := by
  cases o with
  | none => exact x
  | some r => obtain ⟨q, l, a, b, c, d, e⟩ := x; exact ⟨q, l, a, b, c, (fun z => (by rw [z, hN] at d; cases d)), (fun z => (by rw [z, hN] at e; cases e))⟩
/-- the law's rows -/
def LRows (H : Hp) (p : Addr) (x : Str) : Prop := ∃ vs : List V, H p = some (.lst vs) ∧ vs.length = (bodyOf x).length ∧ ∀ (i : Nat) (v : V), vs[i]? = some v → LRow H v (lline ((bodyOf x).getD i ""))
theorem LRows.same {H H' : Hp} {p : Addr} {x : Str} (r : LRows H p x) (s : Same H H') : LRows H' p x := by
  obtain ⟨vs, a, b, c⟩ := r
  exact ⟨vs, s _ _ a, b, fun i v e => (c i v e).same s⟩
inductive WrongIs (b : Bool) (x : Str) : Int → Prop
  | bad {k : Int} : 0 < k → BadAt (wsB b) x k → WrongIs b x k
  | ok : okAll (wsB b) x → endOk x → WrongIs b x 0
theorem ok_lline {b : Bool} {x : Str} (h : okAll (wsB b) x) {i : Nat} (hi : i < (bodyOf x).length) : lline ((bodyOf x).getD i "") = some (rowOf ((bodyOf x).getD i "")) := by
  have h0 := h i hi
  unfold okAt at h0
  have h1 := ok_key h0
  have h2 := ok_form h0
  unfold lline llineB
  rw [h2, decide_eq_true (show wordOf ((bodyOf x).getD i "") ∈ WORDS from h1)]
  rfl
theorem LRows.rows {H : Hp} {p : Addr} {x : Str} {b : Bool} (r : LRows H p x) (h : okAll (wsB b) x) : RowsAt H p (rowsX x) := by
  obtain ⟨vs, a, l, c⟩ := r
  refine ⟨vs, a, by unfold rowsX; rw [List.length_map]; exact l, fun i v r e1 e2 => ?_⟩
  have hi : i < (bodyOf x).length := by rw [← l]; exact (List.getElem?_eq_some_iff.mp e1).1
  have h1 := c i v e1
  rw [ok_lline h hi] at h1
  unfold rowsX at e2
  rw [List.getElem?_map, body_get hi] at e2
  obtain rfl := Option.some.inj e2
  exact h1
section
variable {P : Program} {w : World} {K : PySem.W.Frag} {mg : Str → Option Value} {base : Heap}
def spLWrong : Sp := fun vs H Q _ => ∃ (x : Str) (b : Bool), vs = [.str x, .bl b] ∧ x.length ≤ 9000 ∧ ∀ q R k H', Same H H' → H' q = some (.tup [.int k, .ref R]) → LRows H' R x → WrongIs b x k → Q (.ref q) H'
theorem ok__law_wrong (T : Tx K mg) : FnOk P w K mg base CX0 3 T._law_wrong.f T._law_wrong.fd ["_law_text", "_law_letters_here"] spLWrong := by
  refine T._law_wrong.F.ok sc_law_wrong (fun vs H Q E h => ?_) (fun cdv A outer s H vs Q E hr h => ?_)
  · obtain ⟨x, b, rfl, _⟩ := h
    rfl
  · obtain ⟨x, b, rfl, hx, k⟩ := h
    refine ⟨_, (pss_cons (ps_set (i := 2) sc_law_wrong.nd rfl (Or.inl rfl) (pe_split (pv 0) pe_str))
      (pss_cons (ps_setLc (i := 3) (own := [("_law_line_here", 7)]) (g := (gName 7)) (tt := tYes) rfl sc_law_wrong.nd rfl rfl (sw_true rfl rfl rfl (by decide +kernel)) (pi_list (pe_slice sl_list (pv 2) po_none (po_some (pe_un un_neg pe_int)))) (blkOk_by (own := [("_law_line_here", 7)]) (N := ["_law_text", "_law_letters_here", "_law_lines", "_law_rows", "_law_stage", "_law_at", "_law_word", "_law_line_here"]) (sc := defScope s_law_wrong) (by decide +kernel)) (fun _ _ _ _ _ => (pg_name (i := 7) sc_law_wrong.nd rfl (Or.inl rfl))) (fun _ _ _ _ _ => pts_nil) (fun _ _ _ _ _ => (by exact (pe_call (ok__law_line T) (hr.mono (by decide)) rfl T._law_line.g T._law_line.F.kp T._law_line.b .nil pass0 (pa_cons (pv 7) pa_nil)))))
      (pss_cons (ps_set (i := 4) sc_law_wrong.nd rfl (Or.inl rfl) pe_int)
      (pss_cons (ps_for PassesOwn.never rfl (pi_range1 (by rfl) T.n_range (pa_cons (pe_callB call_len_seq (by rfl) T.n_len (by decide +kernel) (pa_cons (pv 3) pa_nil)) pa_nil)) (pg_name (i := 5) sc_law_wrong.nd rfl (Or.inl rfl))
      (C8.pss_cut (ps_set (i := 6) sc_law_wrong.nd rfl (Or.inl rfl) (pe_ifExp (pt_cmpR op_isN (pe_ix ix_list (pv 3) (pv 5) (fun _ _ => rfl)) pe_non (nomark _)) pe_str (pe_ix ix_tup (pe_ix ix_list (pv 3) (pv 5) (fun _ _ => rfl)) pe_int (fun _ _ => rfl))))
      (pss_one (ps_if (PW.pt (pw_and (pt_cmpR op_eq (pv 4) pe_int (nomark _)) (pw_and1 (pt_cmpR op_eq (pv 6) pe_str (nomark _)))))
      (pss_one (ps_set (i := 4) sc_law_wrong.nd rfl (Or.inl rfl) pe_int))
      (pss_one (ps_if (PW.pt (pw_and (pt_cmpR op_in_seq (pv 4) (pe_lst (pa_cons pe_int (pa_cons pe_int pa_nil))) (by rfl)) (pw_and1 (pt_cmpR op_eq (pv 6) pe_str (nomark _)))))
      (pss_one (ps_set (i := 4) sc_law_wrong.nd rfl (Or.inl rfl) pe_int))
      (pss_one (ps_if (PW.pt (pw_and (pt_val (pv 1)) (pw_and (pt_cmpR op_in_seq (pv 4) (pe_lst (pa_cons pe_int (pa_cons pe_int pa_nil))) (by rfl)) (pw_and1 (pt_cmpR op_eq (pv 6) pe_str (nomark _))))))
      (pss_one (ps_set (i := 4) sc_law_wrong.nd rfl (Or.inl rfl) pe_int))
      (pss_one (ps_ret (pe_tup (pa_cons (pe_op op_add (pv 5) pe_int) (pa_cons (pv 3) pa_nil)))))))))))))
      (pss_cons (ps_if (PW.pt (pw_or (pt_cmpR op_lt (pv 4) pe_int (nomark _)) (pw_or1 (pt_cmpR op_ne (pe_ix ix_list (pv 2) (pe_un un_neg pe_int) (fun _ _ => rfl)) pe_str (nomark _)))))
      (pss_one (ps_ret (pe_tup (pa_cons (pe_callB call_len_seq (by rfl) T.n_len (by decide +kernel) (pa_cons (pv 2) pa_nil)) (pa_cons (pv 3) pa_nil)))))
      pss_nil)
      (pss_one (ps_ret (pe_tup (pa_cons pe_int (pa_cons (pv 3) pa_nil)))))))))), ?_⟩
    have lx := lines_len x
    have bl := body_length x
    have hll : 0 < (linesOf x).length := List.length_pos_iff.mpr (lines_ne x)
    refine ⟨_, rfl, ⟨_, rfl⟩, x, _, rfl, rfl, by decide +kernel, by rw [sizeLine_eq]; omega, fun A hA => ?_⟩
    have s1 := same_upd (o := .lst ((linesOf x).map V.str)) hA
    have eA : (upd H A (.lst ((linesOf x).map V.str))) A = some (.lst ((linesOf x).map V.str)) := upd_same
    change gName 2 (.ref A) _ (upd H A (.lst ((linesOf x).map V.str))) _
    generalize upd H A (.lst ((linesOf x).map V.str)) = H1 at s1 eA ⊢
    refine ⟨_, rfl, ?_⟩
    delta tNoPart tPart tUn
    dsimp only
    refine ⟨1, rfl, -1, rfl, A, _, rfl, SqL.of eA, fun B hB => ⟨B, rfl, ?_⟩⟩
    rw [cut_body]
    have s2 := s1.trans (same_upd (o := .lst ((bodyOf x).map V.str)) hB)
    have eB : (upd H1 B (.lst ((bodyOf x).map V.str))) B = some (.lst ((bodyOf x).map V.str)) := upd_same
    have eA2 := same_upd (o := .lst ((bodyOf x).map V.str)) hB _ _ eA
    generalize upd H1 B (.lst ((bodyOf x).map V.str)) = H2 at s2 eB eA2 ⊢
    refine ⟨⟨_, SqL.of eB⟩, fun N hN => ?_⟩
    refine lc_list (K := K) (a := B) (xs := (bodyOf x).map V.str) (fun j H' => Same H2 H' ∧ ∃ vs : List V, H' N = some (.lst vs) ∧ vs.length = j ∧ ∀ (i : Nat) (v : V), vs[i]? = some v → LRowM N H' v (lline ((bodyOf x).getD i ""))) ⟨same_upd hN, [], upd_same, rfl, fun i v e => by simp at e⟩ (fun j H' _ ⟨z, _⟩ => SqL.of (z _ _ eB)) ?_ ?_
    · rintro j v H3 hv ⟨s3, vs, eN, lv, hvs⟩
      obtain ⟨line, el, rfl⟩ := map_get hv
      have hj : j < (bodyOf x).length := (List.getElem?_eq_some_iff.mp el).1
      have eg : (bodyOf x).getD j "" = line := by rw [List.getD_eq_getElem?_getD, el]; rfl
      have ll : line.length ≤ x.length := line_len (by rw [← eg]; exact body_mem hj)
      refine ⟨rfl, tyes ⟨_, rfl, line, rfl, by omega, fun u H4 s4 hu => ⟨vs, s4 _ _ eN, line_lt (by omega), same_putX (s3.trans s4) hN, _, upd_same, by rw [List.length_append, lv]; rfl, fun i z ez => ?_⟩⟩⟩
      by_cases hi : i < vs.length
      · rw [List.getElem?_append_left hi] at ez
        exact ((hvs i z ez).same s4).upd _
      · rw [List.getElem?_append_right (by omega)] at ez
        have hi0 : i - vs.length = 0 := by
          cases q : i - vs.length with
          | zero => rfl
          | succ n => rw [q] at ez; simp at ez
        rw [hi0] at ez
        obtain rfl : z = u := by simpa using ez.symm
        have ei : i = j := by omega
        rw [ei, eg]
        exact (hu.m eN).upd _
    rintro H3 ⟨s3, vs, eN, lv, hvs⟩
    rw [List.length_map] at lv
    have R : LRows H3 N x := ⟨vs, eN, lv, fun i v e => (hvs i v e).row⟩
    have sA := s2.trans s3
    have eA3 := s3 _ _ eA2
    clear hvs eN s1 s2 s3 eA eA2 eB hA hB hN
    obtain ⟨vs', eN, lv', hvs⟩ := id R
    refine ⟨_, rfl, N, _, rfl, .inl (SqL.of eN), ?_⟩
    rw [lv']
    have kq := fun q kk H' s' e L W => k q N kk H' s' e L W
    refine ⟨(((bodyOf x).length : Nat) : Int), rfl, by omega, by omega, for_range (lo := 0) (n := (((bodyOf x).length : Nat) : Int).toNat) (fun i σ' H' => ∃ (o5 o6 o7 : Option V), σ' = [some (.str x), some (.bl b), some (.ref A), some (.ref N), some (.int (stg (lastW (bodyOf x) i))), o5, o6, o7] ∧ Same H3 H' ∧ ∀ j < i, okAt (wsB b) x j = true)
      ⟨_, _, _, rfl, Same.refl _, fun j hj => absurd hj (Nat.not_lt_zero j)⟩ ?_ ?_⟩
    · rintro i σ' H4 hi ⟨o5, o6, o7, rfl, s4, hok⟩
      rw [Int.zero_add]
      have hi : i < (bodyOf x).length := by omega
      have hk := last_key (ws := wsB b) (ls := bodyOf x) (i := i) hok
      have hlet : lastW (bodyOf x) i = "letter" → b = true := by
        intro z
        cases b with
        | true => rfl
        | false =>
          cases i with
          | zero => exact absurd (show ("" : Str) = "letter" from z) (by decide +kernel)
          | succ i =>
            have h0 := hok i (Nat.lt_succ_self i)
            unfold okAt okLine at h0
            rw [Bool.and_eq_true] at h0
            have h1 := in_str.mp h0.1
            have z : wordOf ((bodyOf x).getD i "") = "letter" := z
            rw [z] at h1
            exact absurd h1 (by decide +kernel)
      obtain ⟨v, ev⟩ : ∃ v, vs'[i]? = some v := ⟨vs'[i]'(by omega), List.getElem?_eq_getElem (by omega)⟩
      have rowi := (hvs i v ev).same s4
      have hstep := step_ok b (line := (bodyOf x).getD i "") hk hlet
      have htw := T_word (b := b) (st := stg (lastW (bodyOf x) i)) (line := (bodyOf x).getD i "")
      have eN4 := s4 _ _ eN
      generalize hline : (bodyOf x).getD i "" = line at *
      have hokat : okAt (wsB b) x i = okLine (wsB b) (lastW (bodyOf x) i) line := by unfold okAt; rw [hline]
      have hnext : lastW (bodyOf x) (i + 1) = wordOf line := by show wordOf ((bodyOf x).getD i "") = _; rw [hline]
      refine ⟨fun σ' H' => H' = H4 ∧ ∃ (o7 : Option V), σ' = [some (.str x), some (.bl b), some (.ref A), some (.ref N), some (.int (stg (lastW (bodyOf x) i))), some (.int (i : Nat)), some (.str (wordL line)), o7], ?_, ?_⟩
      · refine ⟨_, rfl, _, rfl, N, _, _, _, rfl, rfl, SqL.of eN4, atI_nat ev, rfl, _, rfl, ?_⟩
        cases q : lline line with
        | none =>
          rw [q] at rowi
          have rowi : v = .non := rowi
          subst rowi
          refine iteT ⟨rfl, o7, ?_⟩
          unfold wordL
          rw [q]
          rfl
        | some r =>
          rw [q] at rowi
          obtain ⟨qr, l, rfl, e1, e2⟩ := rowi
          refine iteF ⟨_, rfl, _, rfl, N, _, _, _, rfl, rfl, SqL.of eN4, atI_nat ev, qr, _, 0, _, rfl, rfl, SqT.of e1, atI_nat (j := 0) rfl, rfl, o7, ?_⟩
          unfold wordL
          rw [q]
          rfl
      rintro σ' H5 ⟨rfl, o7, rfl⟩
      generalize hst : stg (lastW (bodyOf x) i) = st at *
      refine ansA_and (ansA_eq (x := .int st) rfl rfl) (ansA_eq (x := .str (wordL line)) rfl rfl) H5 (Same.refl _) _ fun H6 s6 => ?_
      change if T1 st (wordL line) = true then _ else _
      have next : ∀ (H7 : Hp) (s : Int) (w : Str), Same H5 H7 → wordOf line = w → stg w = s → okLine (wsB b) (lastW (bodyOf x) i) line = true → ∃ (p5 p6 p7 : Option V), [some (.str x), some (.bl b), some (.ref A), some (.ref N), some (.int s), some (.int (i : Nat)), some (.str (wordL line)), o7] = [some (.str x), some (.bl b), some (.ref A), some (.ref N), some (.int (stg (lastW (bodyOf x) (i + 1)))), p5, p6, p7] ∧ Same H3 H7 ∧ ∀ j < i + 1, okAt (wsB b) x j = true := by
        intro H7 s w s7 hw hs hgood
        refine ⟨some (.int (i : Nat)), some (.str (wordL line)), o7, by rw [hnext, hw, hs], s4.trans s7, fun j hj => ?_⟩
        by_cases z : j = i
        · rw [z, hokat]; exact hgood
        · exact hok j (by omega)
      cases t1 : T1 st (wordL line) with
      | true =>
        refine iteT ?_
        obtain ⟨a1, a2, a3, a4, a5⟩ := next H6 1 "web" s6 (htw.1 t1) stg1 (by rw [hstep, t1]; rfl)
        exact ⟨a1, a2, a3, a4, a5⟩
      | false =>
      refine iteF ?_
      refine ansA_and (ansA_in (K := K) (x := .int st) rfl rfl rfl rfl) (ansA_eq (x := .str (wordL line)) rfl rfl) H6 (Same.refl _) _ fun H7 s7 => ?_
      change if T2 st (wordL line) = true then _ else _
      have s67 := s6.trans s7
      cases t2 : T2 st (wordL line) with
      | true =>
        refine iteT ?_
        obtain ⟨a1, a2, a3, a4, a5⟩ := next H7 2 "road" s67 (htw.2.1 t2) stg2 (by rw [hstep, t1, t2]; rfl)
        exact ⟨a1, a2, a3, a4, a5⟩
      | false =>
      refine iteF ?_
      refine ansA_and (ansA_val (b := b) rfl) (ansA_and (ansA_in (K := K) (x := .int st) rfl rfl rfl rfl) (ansA_eq (x := .str (wordL line)) rfl rfl)) H7 (Same.refl _) _ fun H8 s8 => ?_
      change if T3 b st (wordL line) = true then _ else _
      have s68 := s67.trans s8
      cases t3 : T3 b st (wordL line) with
      | true =>
        refine iteT ?_
        obtain ⟨a1, a2, a3, a4, a5⟩ := next H8 3 "letter" s68 (htw.2.2 t3).1 stg3 (by rw [hstep, t1, t2, t3]; rfl)
        exact ⟨a1, a2, a3, a4, a5⟩
      | false =>
      refine iteF ?_
      have hbad : okAt (wsB b) x i = false := by rw [hokat, hstep, t1, t2, t3]; rfl
      refine ⟨_, rfl, _, _, rfl, rfl, _, rfl, by show 2 ≤ sizeLine; decide, fun q hq => ?_⟩
      have s9 := same_upd (o := .tup [V.int ((i : Nat) + 1), .ref N]) hq
      refine kq q ((i : Nat) + 1) _ (sA.trans ((s4.trans s68).trans s9)) upd_same ((R.same (s4.trans s68)).same s9) ?_
      have := BadAt.line (ws := wsB b) hi hok hbad
      have e1 : (1 : Int) + (i : Nat) = (i : Nat) + 1 := by omega
      rw [e1] at this
      exact .bad (by omega) this
    · rintro σ' H4 ⟨o5, o6, o7, rfl, s4, hok⟩
      rw [Int.toNat_natCast] at hok
      rw [Int.toNat_natCast]
      have hk := last_key (ws := wsB b) (ls := bodyOf x) (i := (bodyOf x).length) hok
      have eA4 := s4 _ _ eA3
      have el := lines_last x
      have ea : atI ((linesOf x).map V.str) (-1) = some (.str ((linesOf x).getD ((linesOf x).length - 1) "")) := by
        rw [el, List.map_append, List.map_cons, List.map_nil, ← el]
        exact atI_last _ _
      have bad : ¬ endOk x → ∀ q H5, Same H4 H5 → H5 q = some (.tup [.int ((linesOf x).length : Nat), .ref N]) → Q (.ref q) H5 := fun hb q H5 s5 e5 => kq q _ H5 (sA.trans (s4.trans s5)) e5 ((R.same s4).same s5) (.bad (by omega) (.fin hok hb))
      have stl : (stg (lastW (bodyOf x) (bodyOf x).length) < 2) ↔ ¬ lastW (bodyOf x) (bodyOf x).length ∈ ([("road" : Str), "letter"] : List Str) := by
        revert hk
        generalize lastW (bodyOf x) (bodyOf x).length = u
        intro hk
        unfold KEYS at hk
        simp only [List.mem_cons, List.not_mem_nil, or_false] at hk
        rcases hk with rfl | rfl | rfl | rfl <;> decide +kernel
      refine ⟨_, rfl, _, _, rfl, rfl, _, rfl, ?_⟩
      by_cases h1 : stg (lastW (bodyOf x) (bodyOf x).length) < 2
      · rw [decide_eq_true h1]
        refine iteT (iteT ⟨_, rfl, A, _, rfl, .inl (SqL.of eA4), _, rfl, by show 2 ≤ sizeLine; decide, fun q hq => ?_⟩)
        rw [List.length_map]
        exact bad (fun z => stl.mp h1 z.2) q _ (same_upd hq) upd_same
      · rw [decide_eq_false h1]
        refine iteF ⟨_, rfl, 1, rfl, A, _, -1, _, rfl, rfl, SqL.of eA4, ea, rfl, _, rfl, ?_⟩
        cases hl : decide (V.str ((linesOf x).getD ((linesOf x).length - 1) "") = V.str "") with
        | false =>
          refine iteT ⟨_, rfl, A, _, rfl, .inl (SqL.of eA4), _, rfl, by show 2 ≤ sizeLine; decide, fun q hq => ?_⟩
          rw [List.length_map]
          refine bad (fun z => ?_) q _ (same_upd hq) upd_same
          rw [z.1, decide_eq_true rfl] at hl
          cases hl
        | true =>
          have hz : (linesOf x).getD ((linesOf x).length - 1) "" = "" := V.str.inj (of_decide_eq_true hl)
          refine iteF ⟨_, rfl, by show 2 ≤ sizeLine; decide, fun q hq => ?_⟩
          have s9 := same_upd (o := .tup [V.int 0, .ref N]) hq
          refine kq q 0 _ (sA.trans (s4.trans s9)) upd_same ((R.same s4).same s9) (.ok hok ⟨hz, ?_⟩)
          by_cases hm : lastW (bodyOf x) (bodyOf x).length ∈ ([("road" : Str), "letter"] : List Str)
          · exact hm
          · exact absurd (stl.mpr hm) h1
end
end Hc


set_option Elab.async false
set_option linter.all false
set_option pp.maxSteps 900
set_option maxRecDepth 100000
set_option maxHeartbeats 4000000
set_option autoImplicit false
namespace Hc
open PySem L2
/-! ### the part of a web that is not as told -/
def farQ (n : Int) (q : List Int) : Bool := decide (n ≤ q.getD 0 0) || (decide (n ≤ q.getD 1 0) || decide (V.int (q.getD 0 0) = V.int (q.getD 1 0)))
def outQ (k : Nat) (q : List Int) : Bool := !(decide (1 ≤ q.getD k 0) && decide (q.getD k 0 ≤ 3))
def partL (n : Int) (qs : List (List Int)) : Str :=
  if (decide (2 ≤ n) && decide (n ≤ 12)) = false then "houses" else if (decide ((24 : Int) < (qs.length : Nat)) || qs.any (farQ n)) = true then "roads" else if qs.any (outQ 2) = true then "rooms" else if qs.any (outQ 3) = true then "times" else "let"
theorem be_far {n : Int} {q : List Int} (h0 : 0 ≤ q.getD 0 0) (h1 : 0 ≤ q.getD 1 0) : isBE n (.tup [.int (q.getD 0 0), .int (q.getD 1 0)]) = !farQ n q := by
  unfold farQ
  generalize q.getD 0 0 = a at *
  generalize q.getD 1 0 = b at *
  unfold isBE
  rw [areBtw_tup, List.all_cons, List.all_cons, List.all_nil]
  show (decide (((2 : Nat) : Int) = 2) && ((decide (0 ≤ a) && decide (a ≤ n - 1)) && ((decide (0 ≤ b) && decide (b ≤ n - 1)) && true)) && !decide (a = b)) = _
  rw [decide_eq_true h0, decide_eq_true h1]
  have e1 : decide (a ≤ n - 1) = !decide (n ≤ a) := by rw [Bool.eq_iff_iff]; simp; omega
  have e2 : decide (b ≤ n - 1) = !decide (n ≤ b) := by rw [Bool.eq_iff_iff]; simp; omega
  have e3 : decide (V.int a = V.int b) = decide (a = b) := int_eqd _ _
  rw [e1, e2, e3]
  cases decide (n ≤ a) <;> cases decide (n ≤ b) <;> cases decide (a = b) <;> rfl
theorem all_any {α : Type} {f g : α → Bool} : ∀ {L : List α}, (∀ q ∈ L, f q = !g q) → L.all f = !L.any g
  | [], _ => rfl
  | q :: L, h => by
    rw [List.all_cons, List.any_cons, Bool.not_or, h q (List.mem_cons_self ..), all_any fun x hx => h x (List.mem_cons_of_mem _ hx)]
theorem part_due {n : Int} {qs : List (List Int)} (h1 : 1 ≤ qs.length) (hp : ∀ q ∈ qs, 0 ≤ q.getD 0 0 ∧ 0 ≤ q.getD 1 0) : dueQ n qs = if partL n qs = "let" then none else some (partL n qs) := by
  have hr : areRoads n (.tup (rdsQ qs)) = !(decide ((24 : Int) < (qs.length : Nat)) || qs.any (farQ n)) := by
    rw [areRoads_tup]
    have l : (rdsQ qs).length = qs.length := List.length_map _
    rw [l, decide_eq_true h1, Bool.true_and]
    have e1 : decide (qs.length ≤ 24) = !decide ((24 : Int) < (qs.length : Nat)) := by rw [Bool.eq_iff_iff]; simp; omega
    have e2 : (rdsQ qs).all (isBE n) = !qs.any (farQ n) := by
      unfold rdsQ
      rw [List.all_map]
      exact all_any fun q hq => by
        obtain ⟨a, b⟩ := hp q hq
        exact be_far a b
    rw [e1, e2, Bool.not_or]
  have hc : ∀ k, areBtw ((rdsQ qs).length : Nat) 1 3 (.tup ((colQ k qs).map D.int)) = !qs.any (outQ k) := by
    intro k
    have l : ((colQ k qs).map D.int).length = qs.length := by unfold colQ; rw [List.length_map, List.length_map]
    have l2 : (rdsQ qs).length = qs.length := List.length_map _
    rw [areBtw_tup, l, l2, decide_eq_true rfl, Bool.true_and]
    unfold colQ
    rw [List.all_map, List.all_map]
    exact all_any fun q _ => by
      show (decide (1 ≤ q.getD k 0) && decide (q.getD k 0 ≤ 3)) = !outQ k q
      unfold outQ
      rw [Bool.not_not]
  unfold dueQ partL
  show (if (decide (2 ≤ n) && decide (n ≤ 12)) = false then some ("houses" : Str) else if areRoads n (.tup (rdsQ qs)) = false then some "roads"
    else if areBtw ((rdsQ qs).length : Nat) 1 3 (.tup ((colQ 2 qs).map D.int)) = false then some "rooms" else if areBtw ((rdsQ qs).length : Nat) 1 3 (.tup ((colQ 3 qs).map D.int)) = false then some "times" else none) = _
  rw [hr, hc 2, hc 3]
  have n1 : ¬ (("houses" : Str) = "let") := by decide +kernel
  have n2 : ¬ (("roads" : Str) = "let") := by decide +kernel
  have n3 : ¬ (("rooms" : Str) = "let") := by decide +kernel
  have n4 : ¬ (("times" : Str) = "let") := by decide +kernel
  generalize (decide (2 ≤ n) && decide (n ≤ 12)) = A
  generalize (decide ((24 : Int) < (qs.length : Nat)) || qs.any (farQ n)) = B
  generalize qs.any (outQ 2) = C
  generalize qs.any (outQ 3) = D
  cases A <;> cases B <;> cases C <;> cases D <;> simp [n1, n2, n3, n4]
section
variable {P : Program} {w : World} {K : PySem.W.Frag} {mg : Str → Option Value} {base : Heap}
/-- a filter: its new list is empty just if nothing is found -/
def Fnd (g : List Int → Bool) (qs : List (List Int)) (D : Addr) (H : Hp) (i : Nat) (H' : Hp) : Prop := Same H H' ∧ ∃ zs : List V, H' D = some (.lst zs) ∧ (0 < zs.length ↔ (qs.take i).any g = true) ∧ zs.length ≤ i
theorem Fnd.no {g : List Int → Bool} {qs : List (List Int)} {D : Addr} {H : Hp} {i : Nat} {H' : Hp} (x : Fnd g qs D H i H') {q : List Int} (e : qs[i]? = some q) (h : g q = false) : Fnd g qs D H (i + 1) H' := by
  obtain ⟨s, zs, a, b, c⟩ := x
  exact ⟨s, zs, a, by rw [take_more e, List.any_append, b]; simp [h], by omega⟩
theorem Fnd.yes {g : List Int → Bool} {qs : List (List Int)} {D : Addr} {H : Hp} {i : Nat} {H' : Hp} (x : Fnd g qs D H i H') {q : List Int} (e : qs[i]? = some q) (h : g q = true) (hD : H D = none) (hi : i < 20000) (y : V) : ∃ acc, H' D = some (.lst acc) ∧ acc.length < sizeLine ∧ Fnd g qs D H (i + 1) (upd H' D (.lst (acc ++ [y]))) := by
  obtain ⟨s, zs, a, b, c⟩ := x
  exact ⟨zs, a, line_lt (by omega), same_putX s hD, _, upd_same, by rw [take_more e, List.any_append, List.length_append]; simp [h], by rw [List.length_append, List.length_singleton]; omega⟩
def spPart : Sp := fun vs H Q _ => ∃ (n : Int) (p : Addr) (qs : List (List Int)), vs = [.int n, .ref p] ∧ ListsAt H p qs ∧ qs.length ≤ 10000 ∧ (∀ q ∈ qs, q.length = 4) ∧ ∀ H', Same H H' → Q (.str (partL n qs)) H'
theorem ok__law_web_part (T : Tx K mg) : FnOk P w K mg base CX0 1 T._law_web_part.f T._law_web_part.fd ["_law_houses", "_law_roads"] spPart := by
  refine T._law_web_part.F.ok sc_law_web_part (fun vs H Q E h => ?_) (fun cdv A outer s H vs Q E hr h => ?_)
  · obtain ⟨n, p, qs, rfl, _⟩ := h
    rfl
  · obtain ⟨n, p, qs, rfl, R, hl, h4, k⟩ := h
    refine ⟨_, (pss_cons (ps_if (pt_not (pt_chain op_le op_le pe_int (pv 0) pe_int))
      (pss_one (ps_ret pe_str))
      pss_nil)
      (pss_cons (ps_setLc (i := 2) (own := [("_law_row", 3)]) (g := (gName 3))  (tt := (tOr (tTest (tOp (rI0 fun i j => .bl (decide (j ≤ i))) (tOp (rIxL K) (tVar 3) (tC (.int 0))) (tVar 0))) (tOr (tTest (tOp (rI0 fun i j => .bl (decide (j ≤ i))) (tOp (rIxL K) (tVar 3) (tC (.int 1))) (tVar 0))) (tTest (tOp rEq (tOp (rIxL K) (tVar 3) (tC (.int 0))) (tOp (rIxL K) (tVar 3) (tC (.int 1)))))))) rfl sc_law_web_part.nd rfl rfl (sw_true rfl rfl rfl (by decide +kernel)) (pi_list (pv 1)) (blkOk_by (own := [("_law_row", 3)]) (N := ["_law_houses", "_law_roads", "_law_far", "_law_row"]) (sc := defScope s_law_web_part) (by decide +kernel)) (fun _ _ _ _ _ => (pg_name (i := 3) sc_law_web_part.nd rfl (Or.inl rfl))) (fun _ _ _ _ _ => (pts_one (by exact (PW.pt (pw_or (pt_cmpR op_ge (pe_ix ix_list (pv 3) pe_int (fun _ _ => rfl)) (pv 0) (nomark _)) (pw_or (pt_cmpR op_ge (pe_ix ix_list (pv 3) pe_int (fun _ _ => rfl)) (pv 0) (nomark _)) (pw_or1 (pt_cmpR op_eq (pe_ix ix_list (pv 3) pe_int (fun _ _ => rfl)) (pe_ix ix_list (pv 3) pe_int (fun _ _ => rfl)) (nomark _))))))))) (fun _ _ _ _ _ => (by exact (pv 3))))
      (pss_cons (ps_if (PW.pt (pw_or (pt_cmpR op_gt (pe_callB call_len_seq (by rfl) T.n_len (by decide +kernel) (pa_cons (pv 1) pa_nil)) pe_int (nomark _)) (pw_or1 (pt_cmpR op_gt (pe_callB call_len_seq (by rfl) T.n_len (by decide +kernel) (pa_cons (pv 2) pa_nil)) pe_int (nomark _)))))
      (pss_one (ps_ret pe_str))
      pss_nil)
      (pss_cons (ps_if (pt_cmpR op_gt (pe_callB call_len_seq (by rfl) T.n_len (by decide +kernel) (pa_cons (pe_lc (own := [("_law_row", 3)]) (g := (gName 3))  (tt := (tNot (tTest (tChain (rI0 fun i j => .bl (decide (i ≤ j))) (rI0 fun i j => .bl (decide (i ≤ j))) (tC (.int 1)) (tOp (rIxL K) (tVar 3) (tC (.int 2))) (tC (.int 3)))))) rfl sc_law_web_part.nd (pi_list (pv 1)) (blkOk_by (own := [("_law_row", 3)]) (N := ["_law_houses", "_law_roads", "_law_far", "_law_row"]) (sc := defScope s_law_web_part) (by decide +kernel)) (fun _ _ _ _ _ => (pg_name (i := 3) sc_law_web_part.nd rfl (Or.inl rfl))) (fun _ _ _ _ _ => (pts_one (by exact (pt_not (pt_chain op_le op_le pe_int (pe_ix ix_list (pv 3) pe_int (fun _ _ => rfl)) pe_int))))) (fun _ _ _ _ _ => (by exact (pv 3)))) pa_nil)) pe_int (nomark _))
      (pss_one (ps_ret pe_str))
      pss_nil)
      (pss_cons (ps_if (pt_cmpR op_gt (pe_callB call_len_seq (by rfl) T.n_len (by decide +kernel) (pa_cons (pe_lc (own := [("_law_row", 3)]) (g := (gName 3))  (tt := (tNot (tTest (tChain (rI0 fun i j => .bl (decide (i ≤ j))) (rI0 fun i j => .bl (decide (i ≤ j))) (tC (.int 1)) (tOp (rIxL K) (tVar 3) (tC (.int 3))) (tC (.int 3)))))) rfl sc_law_web_part.nd (pi_list (pv 1)) (blkOk_by (own := [("_law_row", 3)]) (N := ["_law_houses", "_law_roads", "_law_far", "_law_row"]) (sc := defScope s_law_web_part) (by decide +kernel)) (fun _ _ _ _ _ => (pg_name (i := 3) sc_law_web_part.nd rfl (Or.inl rfl))) (fun _ _ _ _ _ => (pts_one (by exact (pt_not (pt_chain op_le op_le pe_int (pe_ix ix_list (pv 3) pe_int (fun _ _ => rfl)) pe_int))))) (fun _ _ _ _ _ => (by exact (pv 3)))) pa_nil)) pe_int (nomark _))
      (pss_one (ps_ret pe_str))
      pss_nil)
      (pss_one (ps_ret pe_str))))))), ?_⟩
    obtain ⟨ws, eP, lw, hw⟩ := R
    have hq4 : ∀ (j : Nat) (v : V), ws[j]? = some v → ∃ l a b c d, v = .ref l ∧ qs[j]? = some [a, b, c, d] ∧ H l = some (.lst [.int a, .int b, .int c, .int d]) := fun j v e => by
      have hj : j < qs.length := by rw [← lw]; exact (List.getElem?_eq_some_iff.mp e).1
      have eq := List.getElem?_eq_getElem hj
      obtain ⟨a, b, c, d, e4⟩ := four_of (h4 _ (List.getElem_mem hj))
      rw [e4] at eq
      obtain ⟨l, e1, e2⟩ := hw j v _ e eq
      exact ⟨l, a, b, c, d, e1, eq, e2⟩
    have gen : ∀ s, partL n qs = s → ∀ H', Same H H' → Q (.str s) H' := fun s e H' x => e ▸ k H' x
    have house : (decide (2 ≤ n) && decide (n ≤ 12)) = false → ∀ H', Same H H' → Q (.str "houses") H' := fun e => gen _ (by unfold partL; rw [if_pos e])
    refine ⟨_, rfl, _, _, rfl, rfl, _, rfl, ?_⟩
    by_cases g1 : (2 : Int) ≤ n
    rotate_left
    · rw [decide_eq_false g1]
      refine iteF ⟨_, rfl, iteT (house ?_ H (Same.refl H))⟩
      rw [decide_eq_false g1]; rfl
    rw [decide_eq_true g1]
    refine iteT ⟨_, _, rfl, rfl, _, rfl, ?_⟩
    by_cases g2 : n ≤ 12
    rotate_left
    · rw [decide_eq_false g2]
      refine iteT (house ?_ H (Same.refl H))
      rw [decide_eq_false g2, Bool.and_false]
    rw [decide_eq_true g2]
    refine iteF ⟨_, rfl, p, rfl, ⟨_, SqL.of eP⟩, fun D hD => ?_⟩
    have g12 : ¬ (decide (2 ≤ n) && decide (n ≤ 12)) = false := by rw [decide_eq_true g1, decide_eq_true g2]; decide
    refine lc_list (K := K) (a := p) (xs := ws) (Fnd (farQ n) qs D H) ⟨same_upd hD, [], upd_same, by simp, Nat.le_refl _⟩ (fun i H' _ z => SqL.of (z.1 _ _ eP)) ?_ ?_
    · rintro i v H2 hx F
      obtain ⟨l, a, b, c, d, rfl, eq, el⟩ := hq4 i v hx
      have hi : i < qs.length := (List.getElem?_eq_some_iff.mp eq).1
      have el2 := F.1 _ _ el
      have fin : ∀ (σ2 : St) (bb : Bool), σ2[3]? = some (some (.ref l)) → farQ n [a, b, c, d] = bb → if bb = true then tVar 3 σ2 H2 (fun y H4 => ∃ acc, H4 D = some (.lst acc) ∧ acc.length < sizeLine ∧ Fnd (farQ n) qs D H (i + 1) (upd H4 D (.lst (acc ++ [y])))) else Fnd (farQ n) qs D H (i + 1) H2 := fun σ2 bb hs e => by
        cases bb with
        | true => exact iteT ⟨_, hs, F.yes eq e hD (by omega) _⟩
        | false => exact iteF (F.no eq e)
      refine ⟨rfl, ?_⟩
      have e0 : farQ n [a, b, c, d] = (decide (n ≤ a) || (decide (n ≤ b) || decide (V.int a = V.int b))) := rfl
      refine ⟨_, rfl, l, _, 0, _, rfl, rfl, SqL.of el2, atI_nat (j := 0) rfl, _, rfl, _, _, rfl, rfl, _, rfl, ?_⟩
      by_cases c1 : n ≤ a
      · rw [decide_eq_true c1]
        exact iteT (fin _ true rfl (by rw [e0, decide_eq_true c1]; rfl))
      rw [decide_eq_false c1]
      refine iteF ⟨_, rfl, l, _, 1, _, rfl, rfl, SqL.of el2, atI_nat (j := 1) rfl, _, rfl, _, _, rfl, rfl, _, rfl, ?_⟩
      by_cases c2 : n ≤ b
      · rw [decide_eq_true c2]
        exact iteT (fin _ true rfl (by rw [e0, decide_eq_true c2, Bool.true_or, Bool.or_true]))
      rw [decide_eq_false c2]
      refine iteF ⟨_, rfl, l, _, 0, _, rfl, rfl, SqL.of el2, atI_nat (j := 0) rfl, _, rfl, l, _, 1, _, rfl, rfl, SqL.of el2, atI_nat (j := 1) rfl, rfl, _, rfl, ?_⟩
      exact fin _ _ rfl (by rw [e0, decide_eq_false c1, decide_eq_false c2]; rfl)
    rintro H2 ⟨s2, zs, eD, hz, lz⟩
    rw [lw, List.take_length] at hz
    have eP2 := s2 _ _ eP
    have roads : (decide ((24 : Int) < (qs.length : Nat)) || qs.any (farQ n)) = true → ∀ H', Same H H' → Q (.str "roads") H' := fun e => gen _ (by unfold partL; rw [if_neg g12, if_pos e])
    refine ⟨_, rfl, p, _, rfl, .inl (SqL.of eP2), _, _, rfl, rfl, _, rfl, ?_⟩
    rw [lw]
    by_cases g3 : (24 : Int) < (qs.length : Nat)
    · rw [decide_eq_true g3]
      exact iteT (iteT (roads (by rw [decide_eq_true g3]; rfl) H2 s2))
    rw [decide_eq_false g3]
    refine iteF ⟨_, rfl, D, _, rfl, .inl (SqL.of eD), _, _, rfl, rfl, _, rfl, ?_⟩
    by_cases g4 : (0 : Int) < (zs.length : Nat)
    · rw [decide_eq_true g4]
      exact iteT (roads (by rw [hz.mp (by omega), Bool.or_true]) H2 s2)
    rw [decide_eq_false g4]
    have n4 : qs.any (farQ n) = false := by
      cases q : qs.any (farQ n) with
      | false => rfl
      | true => have := hz.mpr q; omega
    have g34 : ¬ (decide ((24 : Int) < (qs.length : Nat)) || qs.any (farQ n)) = true := by rw [decide_eq_false g3, n4]; decide
    refine iteF ?_
    have hq4' : ∀ (j : Nat) (v : V), ws[j]? = some v → ∃ l a b c d, v = .ref l ∧ qs[j]? = some [a, b, c, d] ∧ H2 l = some (.lst [.int a, .int b, .int c, .int d]) := fun j v e => by
      obtain ⟨l, a, b, c, d, e1, e2, e3⟩ := hq4 j v e
      exact ⟨l, a, b, c, d, e1, e2, s2 _ _ e3⟩
    clear eD hz lz hD
    refine ⟨_, rfl, p, rfl, ⟨_, SqL.of eP2⟩, fun D2 hD2 => ?_⟩
    refine lc_list (K := K) (a := p) (xs := ws) (Fnd (outQ 2) qs D2 H2) ⟨same_upd hD2, [], upd_same, by simp, Nat.le_refl _⟩ (fun i H' _ z => SqL.of (z.1 _ _ eP2)) ?_ ?_
    · rintro i v H3 hx F
      obtain ⟨l, a, b, c, d, rfl, eq, el⟩ := hq4' i v hx
      have hi : i < qs.length := (List.getElem?_eq_some_iff.mp eq).1
      have el2 := F.1 _ _ el
      have e0 : outQ 2 [a, b, c, d] = !(decide (1 ≤ c) && decide (c ≤ 3)) := rfl
      refine ⟨rfl, _, rfl, l, _, 2, _, rfl, rfl, SqL.of el2, atI_nat (j := 2) rfl, _, _, rfl, rfl, _, rfl, ?_⟩
      by_cases c1 : (1 : Int) ≤ c
      rotate_left
      · rw [decide_eq_false c1]
        exact iteF ⟨_, rfl, iteT ⟨_, rfl, F.yes eq (by rw [e0, decide_eq_false c1]; rfl) hD2 (by omega) _⟩⟩
      rw [decide_eq_true c1]
      refine iteT ⟨_, _, rfl, rfl, _, rfl, ?_⟩
      by_cases c2 : c ≤ 3
      rotate_left
      · rw [decide_eq_false c2]
        exact iteT ⟨_, rfl, F.yes eq (by rw [e0, decide_eq_false c2, Bool.and_false]; rfl) hD2 (by omega) _⟩
      rw [decide_eq_true c2]
      exact iteF (F.no eq (by rw [e0, decide_eq_true c1, decide_eq_true c2]; rfl))
    rintro H3 ⟨s3, zs, eD, hz, lz⟩
    rw [lw, List.take_length] at hz
    refine ⟨D2, _, rfl, .inl (SqL.of eD), _, _, rfl, rfl, _, rfl, ?_⟩
    by_cases g5 : (0 : Int) < (zs.length : Nat)
    · rw [decide_eq_true g5]
      exact iteT (gen _ (by unfold partL; rw [if_neg g12, if_neg g34, if_pos (hz.mp (by omega))]) H3 (s2.trans s3))
    rw [decide_eq_false g5]
    have g5' : ¬ qs.any (outQ 2) = true := fun q => by have := hz.mpr q; omega
    refine iteF ?_
    have eP3 := s3 _ _ eP2
    have hq5 : ∀ (j : Nat) (v : V), ws[j]? = some v → ∃ l a b c d, v = .ref l ∧ qs[j]? = some [a, b, c, d] ∧ H3 l = some (.lst [.int a, .int b, .int c, .int d]) := fun j v e => by
      obtain ⟨l, a, b, c, d, e1, e2, e3⟩ := hq4' j v e
      exact ⟨l, a, b, c, d, e1, e2, s3 _ _ e3⟩
    clear eD hz lz hD2
    refine ⟨_, rfl, p, rfl, ⟨_, SqL.of eP3⟩, fun D3 hD3 => ?_⟩
    refine lc_list (K := K) (a := p) (xs := ws) (Fnd (outQ 3) qs D3 H3) ⟨same_upd hD3, [], upd_same, by simp, Nat.le_refl _⟩ (fun i H' _ z => SqL.of (z.1 _ _ eP3)) ?_ ?_
    · rintro i v H4 hx F
      obtain ⟨l, a, b, c, d, rfl, eq, el⟩ := hq5 i v hx
      have hi : i < qs.length := (List.getElem?_eq_some_iff.mp eq).1
      have el2 := F.1 _ _ el
      have e0 : outQ 3 [a, b, c, d] = !(decide (1 ≤ d) && decide (d ≤ 3)) := rfl
      refine ⟨rfl, _, rfl, l, _, 3, _, rfl, rfl, SqL.of el2, atI_nat (j := 3) rfl, _, _, rfl, rfl, _, rfl, ?_⟩
      by_cases c1 : (1 : Int) ≤ d
      rotate_left
      · rw [decide_eq_false c1]
        exact iteF ⟨_, rfl, iteT ⟨_, rfl, F.yes eq (by rw [e0, decide_eq_false c1]; rfl) hD3 (by omega) _⟩⟩
      rw [decide_eq_true c1]
      refine iteT ⟨_, _, rfl, rfl, _, rfl, ?_⟩
      by_cases c2 : d ≤ 3
      rotate_left
      · rw [decide_eq_false c2]
        exact iteT ⟨_, rfl, F.yes eq (by rw [e0, decide_eq_false c2, Bool.and_false]; rfl) hD3 (by omega) _⟩
      rw [decide_eq_true c2]
      exact iteF (F.no eq (by rw [e0, decide_eq_true c1, decide_eq_true c2]; rfl))
    rintro H4 ⟨s4, zs, eD, hz, lz⟩
    rw [lw, List.take_length] at hz
    refine ⟨D3, _, rfl, .inl (SqL.of eD), _, _, rfl, rfl, _, rfl, ?_⟩
    have sA := (s2.trans s3).trans s4
    by_cases g6 : (0 : Int) < (zs.length : Nat)
    · rw [decide_eq_true g6]
      exact iteT (gen _ (by unfold partL; rw [if_neg g12, if_neg g34, if_neg g5', if_pos (hz.mp (by omega))]) H4 sA)
    rw [decide_eq_false g6]
    have g6' : ¬ qs.any (outQ 3) = true := fun q => by have := hz.mpr q; omega
    exact iteF (gen _ (by unfold partL; rw [if_neg g12, if_neg g34, if_neg g5', if_neg g6']) H4 sA)
end
end Hc


set_option Elab.async false
set_option linter.all false
set_option pp.maxSteps 900
set_option maxRecDepth 100000
set_option maxHeartbeats 4000000
set_option autoImplicit false
namespace Hc
open PySem L2
theorem words2_snoc (ps : List (Int × Int)) (p : Int × Int) : words2 (ps ++ [p]) = words2 ps ++ [sn p.1, sn p.2] := by unfold words2; simp
theorem words2_len (ps : List (Int × Int)) : (words2 ps).length = 2 * ps.length := by rw [words2_flat, List.length_map, flat2_len]
section
variable {P : Program} {w : World} {K : PySem.W.Frag} {mg : Str → Option Value} {base : Heap}
def spLawDayText : Sp := fun vs H Q _ => ∃ (h : Addr) (v vl vh : V) (n : Int) (rds : List D) (rm tm : List Int) (ls : List Lt) (rows : List (List Int)), vs = [v, vl, vh] ∧ WebF H h v n rds rm tm ∧ Rp H h vl (ltsD ls) ∧ Rp H h vh (rowsD rows) ∧ LsOk rds ls ∧ LenOk ls rows ∧ ls.length ≤ 25 ∧ (∀ r ∈ rows, ∀ x ∈ r, NumR x) ∧ ∀ H', Same H H' → Q (.str (dayS n rds rm tm ls rows)) H'
theorem ok__law_day_text (T : Tx K mg) : FnOk P w K mg base CX0 2 T._law_day_text.f T._law_day_text.fd ["_law_web_here", "_law_letters_here", "_law_hours_here"] spLawDayText := by
  refine T._law_day_text.F.ok sc_law_day_text (fun vs H Q E h => ?_) (fun cdv A outer s H vs Q E hr h => ?_)
  · obtain ⟨_, _, _, _, _, _, _, _, _, _, rfl, _⟩ := h
    rfl
  · obtain ⟨h, v, vl, vh, n, rds, rm, tm, ls, rows, rfl, W, rl, rh, o, ln, h25, hnr, k⟩ := h
    refine ⟨_, (pss_cons (ps_set (i := 3) sc_law_day_text.nd rfl (Or.inl rfl) (pe_lst pa_nil))
      (pss_cons (ps_for PassesOwn.never rfl (pi_range1 (by rfl) T.n_range (pa_cons (pe_callB call_len_seq (by rfl) T.n_len (by decide +kernel) (pa_cons (pv 1) pa_nil)) pa_nil)) (pg_name (i := 4) sc_law_day_text.nd rfl (Or.inl rfl))
      (pss_cons (ps_asg (pe_ix ix_tup (pv 1) (pv 4) (fun _ _ => rfl)) (pg_tup (by rfl) (pgs_cons (pg_name (i := 5) sc_law_day_text.nd rfl (Or.inl rfl)) (pgs_cons (pg_name (i := 6) sc_law_day_text.nd rfl (Or.inl rfl)) pgs_nil))))
      (pss_cons (ps_set (i := 7) sc_law_day_text.nd rfl (Or.inl rfl) (pe_lst (pa_cons pe_str (pa_cons (pe_callTy call_str_int (by rfl) T.n_str (by decide +kernel) (pa_cons (pv 6) pa_nil)) pa_nil))))
      (pss_cons (ps_for PassesOwn.never rfl (pi_range1 (by rfl) T.n_range (pa_cons (pe_callB call_len_seq (by rfl) T.n_len (by decide +kernel) (pa_cons (pv 5) pa_nil)) pa_nil)) (pg_name (i := 8) sc_law_day_text.nd rfl (Or.inl rfl))
      (pss_one (ps_set (i := 7) sc_law_day_text.nd rfl (Or.inl rfl) (pe_op op_cat (pv 7) (pe_lst (pa_cons (pe_callTy call_str_int (by rfl) T.n_str (by decide +kernel) (pa_cons (pe_ix ix_tup (pv 5) (pv 8) (fun _ _ => rfl)) pa_nil)) (pa_cons (pe_callTy call_str_int (by rfl) T.n_str (by decide +kernel) (pa_cons (pe_ix ix_tup (pe_ix ix_tup (pv 2) (pv 4) (fun _ _ => rfl)) (pv 8) (fun _ _ => rfl)) pa_nil)) pa_nil)))))))
      (pss_one (ps_expr (pe_bm PySem.F.plainAttrs_list PySem.F.slot_list_append PySem.F.type_list_append mt_append (pv 3) (pa_cons (pe_op op_add_str (pe_join pe_str (pv 7)) pe_str) pa_nil))))))))
      (pss_one (ps_ret (pe_op op_add_str (pe_call (ok__law_web_text T) (hr.mono (by decide)) rfl T._law_web_text.g T._law_web_text.F.kp T._law_web_text.b .nil pass0 (pa_cons (pv 0) pa_nil)) (pe_join pe_str (pv 3))))))), ?_⟩
    obtain ⟨ql, xs, rfl, el, lx, at_⟩ := lts_at rl
    obtain ⟨qh, ys, rfl, eh, ly, rat⟩ := rows_at rh
    have w2 := W.l2
    refine ⟨by show 0 ≤ sizeLine; decide, fun L hL => ?_⟩
    have s1 := same_upd (o := .lst []) hL
    have e1 : (upd H L (.lst [])) L = some (.lst []) := upd_same
    change gName 3 (.ref L) _ (upd H L (.lst [])) _
    generalize upd H L (.lst []) = H1 at s1 e1 ⊢
    refine ⟨_, rfl, ql, _, rfl, .inr (SqT.of (s1 _ _ el)), ?_⟩
    rw [lx]
    refine ⟨((ls.length : Nat) : Int), rfl, by omega, by omega, for_range (lo := 0) (n := ((ls.length : Nat) : Int).toNat) (fun i σ' H' => ∃ (o4 o5 o6 o7 o8 : Option V), σ' = [some v, some (.ref ql), some (.ref qh), some (.ref L), o4, o5, o6, o7, o8] ∧ Same H H' ∧ H' L = some (.lst ((((ls.zip rows).take i).map fun p => lineS p.1 p.2 ++ ("\n" : Str)).map V.str)))
      ⟨_, _, _, _, _, rfl, s1, e1⟩ ?_ ?_⟩
    · rintro i σ' H2 hi ⟨o4, o5, o6, o7, o8, rfl, s2, eL⟩
      rw [Int.zero_add]
      have hi : i < ls.length := by omega
      have hi2 : i < rows.length := by rw [ln.1]; exact hi
      have e5 : ls[i]? = some ls[i] := List.getElem?_eq_getElem hi
      have e6 : rows[i]? = some rows[i] := List.getElem?_eq_getElem hi2
      obtain ⟨x, hx, rx⟩ := at_ i _ e5
      obtain ⟨b, hb, eb⟩ := rat i _ e6
      obtain ⟨q, al, rfl, eq, eal⟩ := lt_inv rx
      obtain ⟨o1, o2, o3, _, oc5, oc6⟩ := o.h ls[i] (List.getElem_mem hi)
      have hlr := ln.2 i _ _ e5 e6
      have hrr := hnr _ (List.getElem_mem hi2)
      have ez : (ls.zip rows)[i]? = some (ls[i], rows[i]) := by rw [List.getElem?_zip_eq_some]; exact ⟨e5, e6⟩
      generalize ls[i] = l at *
      generalize rows[i] = r at *
      have nc : NumOk l.2 := ⟨Int.le_trans (by decide) oc5, Int.lt_of_le_of_lt oc6 (by decide)⟩
      refine ⟨_, rfl, _, rfl, ql, _, _, _, rfl, rfl, SqT.of (s2 _ _ el), atI_nat hx, q, _, rfl, SqT.of (s2 _ _ eq), rfl, _, _, rfl, _, _, rfl, rfl, _, rfl, _, rfl, nc.lg, by show 2 ≤ sizeLine; decide, fun A1 hA1 => ?_⟩
      have s3 := same_upd (o := .lst [V.str "letter", .str (sn l.2)]) hA1
      have e3 : (upd H2 A1 (.lst [V.str "letter", .str (sn l.2)])) A1 = some (.lst [V.str "letter", .str (sn l.2)]) := upd_same
      change gName 7 (.ref A1) _ (upd H2 A1 (.lst [V.str "letter", .str (sn l.2)])) _
      generalize upd H2 A1 (.lst [V.str "letter", .str (sn l.2)]) = H3 at s3 e3 ⊢
      have s13 := s2.trans s3
      refine ⟨_, rfl, al, _, rfl, .inr (SqT.of (s13 _ _ eal)), ?_⟩
      rw [List.length_map]
      have lps : (psL l r).length = l.1.length := by unfold psL; rw [List.length_zip, List.length_map]; omega
      refine ⟨((l.1.length : Nat) : Int), rfl, by omega, by omega, for_range (D := { nx := _, rt := _ }) (lo := 0) (n := ((l.1.length : Nat) : Int).toNat) (fun j σ' H' => ∃ (wd : Addr) (o8 : Option V), σ' = [some v, some (.ref ql), some (.ref qh), some (.ref L), some (.int (i : Nat)), some (.ref al), some (.int l.2), some (.ref wd), o8] ∧ Same H3 H' ∧ H' wd = some (.lst ((("letter" : Str) :: sn l.2 :: words2 ((psL l r).take j)).map V.str)))
        ⟨A1, _, rfl, Same.refl _, e3⟩ ?_ ?_⟩
      · rintro j σ' H4 hj ⟨wd, o8, rfl, s4, ewd⟩
        rw [Int.zero_add]
        have hj : j < l.1.length := by omega
        have hjr : j < r.length := by omega
        have nj : NumOk ((l.1[j] : Nat) : Int) := by have := o3 _ (List.getElem_mem hj); exact ⟨by omega, by omega⟩
        have nr : NumOk r[j] := (hrr _ (List.getElem_mem hjr)).o
        have ej : (l.1.map fun j => V.int (j : Nat))[j]? = some (.int ((l.1[j] : Nat) : Int)) := by rw [List.getElem?_map, List.getElem?_eq_getElem hj]; rfl
        have er : (r.map V.int)[j]? = some (.int r[j]) := by rw [List.getElem?_map, List.getElem?_eq_getElem hjr]; rfl
        have s14 := s13.trans s4
        have ep : (psL l r)[j]? = some (((l.1[j] : Nat) : Int), r[j]) := by
          unfold psL
          rw [List.getElem?_zip_eq_some, List.getElem?_map, List.getElem?_eq_getElem hj]
          exact ⟨rfl, List.getElem?_eq_getElem hjr⟩
        refine ⟨_, rfl, _, rfl, _, rfl, al, _, _, _, rfl, rfl, SqT.of (s14 _ _ eal), atI_nat ej, _, rfl, nj.lg, ?_⟩
        refine ⟨_, rfl, _, rfl, qh, _, _, _, rfl, rfl, SqT.of (s14 _ _ eh), atI_nat hb, _, rfl, b, _, _, _, rfl, rfl, SqT.of (s14 _ _ eb), atI_nat er, _, rfl, nr.lg, by show 2 ≤ sizeLine; decide, fun A2 hA2 => ?_⟩
        have nwA := ne_of_none ewd hA2
        refine ⟨wd, A2, _, _, rfl, rfl, (upd_ne nwA).trans ewd, upd_same, ?_, fun A3 hA3 => ⟨A3, _, rfl, ?_, ?_⟩⟩
        · rw [List.length_map, List.length_cons, List.length_cons, words2_len, List.length_take]
          exact line_le (by show _ + 2 ≤ _; omega)
        · exact s4.trans ((same_upd hA2).trans (same_upd hA3))
        · rw [upd_same, take_more ep, words2_snoc]
          show some (HO.lst _) = some (HO.lst (List.map V.str ((("letter" : Str) :: sn l.2 :: words2 (List.take j (psL l r))) ++ [sn (((l.1[j] : Nat) : Int)), sn r[j]])))
          rw [List.map_append]
          rfl
      · rintro σ' H4 ⟨wd, o8, rfl, s4, ewd⟩
        rw [Int.toNat_natCast, ← lps, List.take_length] at ewd
        have s14 := s13.trans s4
        have eL4 := s4 _ _ (s3 _ _ eL)
        have hne : psL l r ≠ [] := fun z => by rw [z] at lps; simp at lps; omega
        have hj := fLetter_join l.2 hne
        have hshort := lineS_short hlr o2 nc (fun j hj => by have := o3 j hj; omega) (fun z hz => (hrr z hz).o)
        have hw : ∀ w ∈ ("letter" : Str) :: sn l.2 :: words2 (psL l r), w.length ≤ 12 := by
          intro w hw
          rcases List.mem_cons.mp hw with rfl | hw
          · exact Nat.le_trans (show ("letter" : Str).length ≤ 6 by decide +kernel) (by decide)
          · rcases List.mem_cons.mp hw with rfl | hw
            · exact nc.len
            · unfold words2 at hw
              obtain ⟨pr, hp, hm2⟩ := List.mem_flatten.mp hw
              obtain ⟨⟨a, c⟩, hab, rfl⟩ := List.mem_map.mp hp
              unfold psL at hab
              obtain ⟨g1, g2⟩ := List.of_mem_zip hab
              obtain ⟨j, hj, rfl⟩ := List.mem_map.mp g1
              have := o3 j hj
              simp only [List.mem_cons, List.not_mem_nil, or_false] at hm2
              rcases hm2 with rfl | rfl
              · exact NumOk.len ⟨by show (0 : Int) ≤ (j : Nat); omega, by show ((j : Nat) : Int) < _; omega⟩
              · exact (hrr _ g2).o.len
        have hl18 : (("letter" : Str) :: sn l.2 :: words2 (psL l r)).length ≤ 18 := by
          rw [List.length_cons, List.length_cons, words2_len]; omega
        unfold lineS at hshort
        rw [hj] at hshort
        have hline : lineS l r = Txt.join " " (("letter" : Str) :: sn l.2 :: words2 (psL l r)) := hj
        generalize ("letter" : Str) :: sn l.2 :: words2 (psL l r) = ws at *
        have h1 := join_le (y := " ") hw hl18
        have h2 : ws.length * (" " : Str).length ≤ 18 * 1 := Nat.mul_le_mul hl18 l1s
        have l1 : ("\n" : Str).length = 1 := by decide +kernel
        refine ⟨_, rfl, .inl ⟨rfl, _, SqL.of eL4⟩, ⟨_, rfl⟩, _, rfl, _, wd, ws, rfl, rfl, .inl (SqL.of ewd), by omega, _, _, rfl, rfl, by rw [sizeLine_eq]; omega, ?_⟩
        refine ⟨L, _, _, rfl, rfl, eL4, ?_, _, _, _, _, _, rfl, ?_, ?_⟩
        · rw [List.length_map, List.length_map, List.length_take]; exact line_lt (by omega)
        · exact same_putX s14 hL
        · rw [upd_same, take_more ez, List.map_append, List.map_append, ← hline]; rfl
    · rintro σ' H2 ⟨o4, o5, o6, o7, o8, rfl, s2, eL⟩
      rw [Int.toNat_natCast] at eL
      have lz : (ls.zip rows).length = ls.length := by rw [List.length_zip, ln.1]; omega
      rw [← lz, List.take_length] at eL
      obtain ⟨lw, lm⟩ := webLs_short W.p
      have c1 := closed_len lw lm
      refine ⟨_, rfl, h, v, n, rds, rm, tm, rfl, W.nl (NL.of s2), fun H3 s3 => ?_⟩
      have hln : ∀ w ∈ (ls.zip rows).map (fun p => lineS p.1 p.2), w.length ≤ 230 := by
        intro w hw
        obtain ⟨⟨l1, r1⟩, hm, rfl⟩ := List.mem_map.mp hw
        obtain ⟨i, hi, e⟩ := List.mem_iff_getElem.mp hm
        have ez : (ls.zip rows)[i]? = some (l1, r1) := by rw [List.getElem?_eq_getElem hi, e]
        rw [List.getElem?_zip_eq_some] at ez
        obtain ⟨o1, o2, o3, _, o5, o6⟩ := o.h l1 (List.mem_of_getElem? ez.1)
        exact lineS_short (ln.2 i _ _ ez.1 ez.2) o2 ⟨Int.le_trans (by decide) o5, Int.lt_of_le_of_lt o6 (by decide)⟩ (fun j hj => by have := o3 j hj; omega) (fun z hz => (hnr _ (List.mem_of_getElem? ez.2) z hz).o)
      have c2 : (closedS (lineLs ls rows)).length ≤ (230 + 1) * 25 := closed_len hln (by unfold lineLs; rw [List.length_map, lz]; omega)
      have k2 := fun H' s' => k H' ((s2.trans s3).trans s')
      have eL3 := s3 _ _ eL
      have hz : dayS n rds rm tm ls rows = webS n rds rm tm ++ Txt.join "" ((ls.zip rows).map fun p => lineS p.1 p.2 ++ ("\n" : Str)) := by
        unfold dayS closedS lineLs
        rw [List.map_map]
        rfl
      have hc : closedS (lineLs ls rows) = Txt.join "" ((ls.zip rows).map fun p => lineS p.1 p.2 ++ ("\n" : Str)) := by
        unfold closedS lineLs
        rw [List.map_map]
        rfl
      have hw : ∀ w ∈ (ls.zip rows).map (fun p => lineS p.1 p.2 ++ ("\n" : Str)), w.length ≤ 231 := by
        intro w hw
        obtain ⟨p, hp, rfl⟩ := List.mem_map.mp hw
        have := hln _ (List.mem_map.mpr ⟨p, hp, rfl⟩)
        have l1 : ("\n" : Str).length = 1 := by decide +kernel
        rw [len_app, l1]; omega
      have hm : ((ls.zip rows).map (fun p => lineS p.1 p.2 ++ ("\n" : Str))).length ≤ 25 := by rw [List.length_map, lz]; omega
      rw [hc] at c2
      rw [hz] at k2
      have c1 : (webS n rds rm tm).length ≤ (60 + 1) * 25 := c1
      generalize (ls.zip rows).map (fun p => lineS p.1 p.2 ++ ("\n" : Str)) = ws at *
      generalize webS n rds rm tm = wt at *
      have h1 := join_le (y := "") hw hm
      have l0 : ("" : Str).length = 0 := by decide +kernel
      refine ⟨⟨_, rfl⟩, _, rfl, _, L, ws, rfl, rfl, .inl (SqL.of eL3), by rw [l0]; omega, _, _, rfl, rfl, by rw [sizeLine_eq]; omega, k2 H3 (Same.refl _)⟩
end
end Hc


set_option Elab.async false
set_option linter.all false
set_option maxRecDepth 100000
set_option maxHeartbeats 2000000
set_option autoImplicit false
namespace L2
open PySem PySem.Spec PyProof.Rows
/-- one clause: its class, the slot of its name if it has one, what its suite wishes -/
structure Clause where
  c : Value
  i : Option Nat
  ts : Addr → Value → Option Addr → TS
/-- the ends of a suite with a name in slot i: behind it the slot is free -/
def freeAt (i : Nat) (D : Ends) : Ends := { nx := fun σ' H' => D.nx (σ'.set i none) H', rt := D.rt, bk := fun σ' H' => D.bk (σ'.set i none) H', ct := fun σ' H' => D.ct (σ'.set i none) H' }
def Clause.wish (k : Clause) (D : Ends) (cls : Value) (d : Option Addr) (σ : St) (H : Hp) : Prop := ∀ a, H a = none →
  match k.i with
  | none => k.ts a cls d D σ H
  | some i => k.ts a cls d (freeAt i D) (σ.set i (some (.ref a))) H
/-- a row of clauses, one of which takes the error -/
def wRow (K : PySem.W.Frag) (D : Ends) : List Clause → WX
  | [] => fun _ _ _ _ => False
  | k :: r => fun cls d σ H => ∃ b, PySem.W.exmOne K cls k.c = some b ∧ (b = true → k.wish D cls d σ H) ∧ (b = false → wRow K D r cls d σ H)
inductive RowOk (X : Cx) : List ExceptHandler → List Clause → Prop
  | nil : RowOk X [] []
  | plain {x : Str} {c : Value} {ts : Addr → Value → Option Addr → TS} {b₀ : Stmt} {suite : List Stmt} {np pos' : Pos} {hds : List ExceptHandler} {l : List Clause} (r : RowOk X hds l) (hc : Names X x c)
      (hsu : ∀ (a : Addr) (oe : Obj) (cls : Value) (d : Option Addr) (pn : List (Addr × Obj)), Zc cls d oe → (∃ vs, oe.data = .fields vs) → PSs (X.suite a ((a, oe) :: pn)) (b₀ :: suite) (ts a cls d)) : RowOk X (.ExceptHandler (some (.Name x np)) none (b₀ :: suite) pos' :: hds) (⟨c, none, ts⟩ :: l)
  | named {x n : Str} {i : Nat} {c : Value} {ts : Addr → Value → Option Addr → TS} {b₀ : Stmt} {suite : List Stmt} {np pos' : Pos} {hds : List ExceptHandler} {l : List Clause} (r : RowOk X hds l) (hc : Names X x c) (hi : X.N[i]? = some n) (hln : X.env.kindOf n = some .local)
      (hsu : ∀ (a : Addr) (oe : Obj) (cls : Value) (d : Option Addr) (pn : List (Addr × Obj)), Zc cls d oe → (∃ vs, oe.data = .fields vs) → PSs (X.suite a ((a, oe) :: pn)) (b₀ :: suite) (ts a cls d)) : RowOk X (.ExceptHandler (some (.Name x np)) (some n) (b₀ :: suite) pos' :: hds) (⟨c, some i, ts⟩ :: l)
section
variable {X : Cx} {body : List Stmt} {h₀ : ExceptHandler} {hds : List ExceptHandler} {l : List Clause} {pos : Pos} {tb : WX → TS}
theorem ps_try_row (hs : X.stack = X.env :: X.outer) (hf : X.env.frame = some X.env.locals) (hN : X.N.Nodup) (hne : hds ≠ [])
    (hb : ∀ (W : WX) (pn : List (Addr × Obj)) (xe : Value → Shared → Prop), Takes (X.tr pn xe) W → PassesOwn (model X.prog X.w) X.A X.env xe → PSs (X.tr pn xe) body (tb W))
    (hh : RowOk X hds l) : PS X (.Try body hds [] [] pos) (fun D σ H => tb (wRow X.K D l) D σ H) := by
  refine ⟨fun pins s σ H D I h => ?_⟩
  have ok := I.ok
  have hfr : X.A.frames = some (X.env :: X.outer) := by rw [ok.frames, hs]
  obtain ⟨h₁, hr₁, rfl⟩ : ∃ a r, hds = a :: r := by
    cases hds with
    | nil => exact absurd rfl hne
    | cons a r => exact ⟨a, r, rfl⟩
  refine wpAny_Try_except ?_
  refine wpAny_mono ((hb (wRow X.K D l) (X.pn ++ pins) (fun e s₁ => wpAny (model X.prog X.w) X.A (noteFrame e X.env) (fun _ s₂ => wpAny (model X.prog X.w) X.A (setFlight e none) (fun _ s₃ =>
    wpAny (model X.prog X.w) X.A (handleBy e X.env (h₁ :: hr₁)) (SP X pins D) X.xe s₃) X.xe s₂) X.xe s₁) (fun u s' xx => ?_) PassesOwn.looking).run [] s σ H D (I.toTry _) h) (fun f s1 hsp => ?_) (fun e s1 he => he)
  · obtain ⟨a, B, sI, pins', σ', H', cls, d, rfl, J', nb, up, sky, na, os, ag, w⟩ := xx
    have J : Inv X pins σ' H' sI := J'.ofTry ok
    have sky' : Sky B (X.env :: X.outer) a (Zc cls d) X.env.locals s'.heap := by rw [← hs]; exact sky
    show wpAny (model X.prog X.w) X.A (noteFrame (.ref a) X.env) _ _ _
    refine Sky.land Zc.steady hfr hf sky' fun h3 fl3 up3 => ?_
    have J3 : Inv X pins σ' H' { s' with heap := h3 } := J.landed nb fl3.1 (up.trans up3) os ag
    obtain ⟨oe3, vs3, he3, hz3, hd3⟩ := fl3.there
    have nfr : a ∉ frs (X.env :: X.outer) := fun hm => by
      obtain ⟨_, o', e', hnf⟩ := fl3.2.2.1.mem hm
      rw [he3] at e'; cases e'
      exact hnf _ hd3
    have nL : a ≠ X.env.locals := fun z => nfr (List.mem_filterMap.mpr ⟨X.env, List.mem_cons_self, by rw [hf, z]⟩)
    have nF : a ∉ X.fs := fun hm => by
      obtain ⟨e, he, q⟩ := List.mem_filterMap.mp hm
      exact nfr (List.mem_filterMap.mpr ⟨e, List.mem_cons_of_mem _ he, q⟩)
    have S3 := J3.suite he3 hd3 na nL nF
    have all : ∀ {hs' : List ExceptHandler} {l' : List Clause}, RowOk X hs' l' → wRow X.K D l' cls d σ' H' → wpAny (model X.prog X.w) X.A (handleBy (.ref a) X.env hs') (SP X pins D) X.xe { s' with heap := h3 } := by
      intro hs' l' hk
      induction hk with
      | nil => exact fun w => w.elim
      | plain r hc hsu go =>
        rename_i x c ts b₀ suite np pos' hds2 l2
        rintro ⟨b, hb1, wyes, wno⟩
        refine wpAny_handleBy_cons (codeAny_handlers_test ?_) (by intro q; cases q)
        have LT : PySem.W.Looks (model X.prog X.w) h3 (typeOf (.ref a)) cls := fun A Q E s k q => wpAny_typeOf_ref (k _ _ he3) (by rw [hz3.1]; exact q)
        have LM := PySem.W.exm_one (M := model X.prog X.w) (J3.kIn) LT hb1
        have test : ∀ {Q : Value → Shared → Prop} {E : Value → Shared → Prop}, Q c { s' with heap := h3 } → wpAny (model X.prog X.w) (X.A.mark (some (.ref a))) (eval (.Name x np) X.env) Q E { s' with heap := h3 } := fun {Q E} q => by
          obtain ⟨hg, hdbg, hm | ⟨hm, hv, hnn⟩⟩ := hc
          · exact ld_glob (X := X.suite a ((a, oe3) :: (X.pn ++ pins))) S3 hg hm q hdbg
          · exact ld_blt (X := X.suite a ((a, oe3) :: (X.pn ++ pins))) S3 hg hm hv q hnn hdbg
        refine test (LM.here ?_)
        cases b with
        | false => exact go (wno rfl)
        | true =>
        refine codeAny_handlers_suite ?_
        refine HandSPX.lands_againZ fl3 fun h4 fl4 up4 => ?_
        have J4 : Inv X pins σ' H' { s' with heap := h4 } := J.landed nb fl4.1 ((up.trans up3).trans up4) os ag
        obtain ⟨oe4, vs4, he4, hz4, hd4⟩ := fl4.there
        have S4 := J4.suite he4 hd4 na nL nF
        refine wpAny_mono ((hsu a oe4 cls d (X.pn ++ pins) hz4 ⟨_, hd4⟩).run [] _ _ H' _ S4 (wyes rfl a na)) (fun f s6 hsp => ?_) (fun _ _ z => False.elim z)
        cases f with
        | ret u => exact let ⟨v6, σ6, H6, S6, r6, q6⟩ := hsp; ⟨v6, σ6, H6, S6.unsuite ok, r6, q6⟩
        | next => exact let ⟨σ6, H6, S6, q6⟩ := hsp; ⟨σ6, H6, S6.unsuite ok, q6⟩
        | brk => exact let ⟨σ6, H6, S6, q6⟩ := hsp; ⟨σ6, H6, S6.unsuite ok, q6⟩
        | cont => exact let ⟨σ6, H6, S6, q6⟩ := hsp; ⟨σ6, H6, S6.unsuite ok, q6⟩
      | named r hc hi hln hsu go =>
        rename_i x n i c ts b₀ suite np pos' hds2 l2
        rintro ⟨b, hb1, wyes, wno⟩
        have hloc : Loc X.env.scope n := .inl hln
        refine wpAny_handleBy_cons (codeAny_handlers_test ?_) (by intro q; cases q)
        have LT : PySem.W.Looks (model X.prog X.w) h3 (typeOf (.ref a)) cls := fun A Q E s k q => wpAny_typeOf_ref (k _ _ he3) (by rw [hz3.1]; exact q)
        have LM := PySem.W.exm_one (M := model X.prog X.w) (J3.kIn) LT hb1
        have test : ∀ {Q : Value → Shared → Prop} {E : Value → Shared → Prop}, Q c { s' with heap := h3 } → wpAny (model X.prog X.w) (X.A.mark (some (.ref a))) (eval (.Name x np) X.env) Q E { s' with heap := h3 } := fun {Q E} q => by
          obtain ⟨hg, hdbg, hm | ⟨hm, hv, hnn⟩⟩ := hc
          · exact ld_glob (X := X.suite a ((a, oe3) :: (X.pn ++ pins))) S3 hg hm q hdbg
          · exact ld_blt (X := X.suite a ((a, oe3) :: (X.pn ++ pins))) S3 hg hm hv q hnn hdbg
        refine test (LM.here ?_)
        cases b with
        | false => exact go (wno rfl)
        | true =>
        refine codeAny_handlers_suite_as ?_
        refine HandSPX.lands_againZ fl3 fun h4 fl4 up4 => ?_
        have J4 : Inv X pins σ' H' { s' with heap := h4 } := J.landed nb fl4.1 ((up.trans up3).trans up4) os ag
        obtain ⟨oe4, vs4, he4, hz4, hd4⟩ := fl4.there
        have S4 := J4.suite he4 hd4 na nL nF
        refine store_ok (X := X.suite a ((a, oe4) :: (X.pn ++ pins))) (v := .ref a) S4 hN hi hloc rfl (fun s5 S5 => ?_) (.inr hln)
        refine wpAny_mono ((hsu a oe4 cls d (X.pn ++ pins) hz4 ⟨_, hd4⟩).run [] s5 _ H' _ S5 (wyes rfl a na)) (fun f s6 hsp => ?_) (fun _ _ z => False.elim z)
        have end_ : ∀ {σ6 : St} {H6 : Hp} {Q : Shared → Prop}, Inv (X.suite a ((a, oe4) :: (X.pn ++ pins))) [] σ6 H6 s6 → (∀ s7, Inv X pins (σ6.set i none) H6 s7 → Q s7) →
            wpAny (model X.prog X.w) X.A (do bindName X.env n .none; unbindBehindTheSuite X.env n pos') (fun _ s7 => Q s7) X.xe s6 := fun {σ6 H6 Q} S6 hq => gone_ok (S6.unsuite ok) hN hi hln hq
        cases f with
        | next =>
          obtain ⟨σ6, H6, S6, q6⟩ := hsp
          exact end_ S6 fun s7 J7 => ⟨_, _, J7, q6⟩
        | brk =>
          obtain ⟨σ6, H6, S6, q6⟩ := hsp
          exact end_ S6 fun s7 J7 => ⟨_, _, J7, q6⟩
        | cont =>
          obtain ⟨σ6, H6, S6, q6⟩ := hsp
          exact end_ S6 fun s7 J7 => ⟨_, _, J7, q6⟩
        | ret u =>
          obtain ⟨v6, σ6, H6, S6, r6, q6⟩ := hsp
          exact end_ S6 fun s7 J7 => ⟨_, _, _, J7, r6, q6⟩
    exact all hh w
  · cases f with
    | next =>
      obtain ⟨σ', H', J', q⟩ := hsp
      exact wpAny_execs_nil ⟨σ', H', J'.ofTry ok, q⟩
    | brk =>
      obtain ⟨σ', H', J', q⟩ := hsp
      exact ⟨σ', H', J'.ofTry ok, q⟩
    | cont =>
      obtain ⟨σ', H', J', q⟩ := hsp
      exact ⟨σ', H', J'.ofTry ok, q⟩
    | ret u =>
      obtain ⟨v, σ', H', J', r, q⟩ := hsp
      exact ⟨v, σ', H', J'.ofTry ok, r, q⟩
end
end L2


set_option Elab.async false
set_option linter.all false
set_option maxRecDepth 100000
set_option maxHeartbeats 2000000
set_option autoImplicit false
namespace L2
open PySem PySem.Spec PyProof.Rows
/-- a text so many times -/
def rRepS : R2 := fun x y H Q => ∃ (i : Str) (n : Int), x = .str i ∧ y = .int n ∧ MulOk i n ∧ Q (.str (Txt.mul i n)) H
theorem op_repS {X : Cx} : OpR X (binaryOp .Mult) rRepS := by
  intro pins s σ H x y v u Q I rx ry h
  obtain ⟨i, n, rfl, rfl, hz, q⟩ := h
  obtain ⟨t, rfl⟩ := rx
  obtain ⟨t', rfl⟩ := ry
  exact SB.mul hz fun t' k => ⟨.str (Txt.mul i n), H, I.tok k, ⟨_, rfl⟩, q⟩
end L2


namespace Hc
end Hc


set_option Elab.async false
set_option linter.all false
set_option maxRecDepth 100000
set_option maxHeartbeats 4000000
set_option autoImplicit false
namespace Hc
open PySem L2
def lwOf (m : List Int) : Lt := ((evn m 1).map Int.toNat, m.getD 0 0)
def hrOf (m : List Int) : List Int := evn m 2
theorem evn_pos {m : List Int} (h : ∀ k, 0 ≤ m.getD k 0) {k : Nat} : ∀ x ∈ evn m k, 0 ≤ x := by
  intro x hx
  obtain ⟨i, e⟩ := List.mem_iff_getElem?.mp hx
  rw [evn_get] at e
  have := h (k + 2 * i)
  rw [List.getD_eq_getElem?_getD, e] at this
  exact this
theorem toNat_ints {L : List Int} (h : ∀ x ∈ L, 0 ≤ x) : (L.map Int.toNat).map (fun j => ((j : Nat) : Int)) = L := by
  rw [List.map_map]
  conv => rhs; rw [← List.map_id L]
  exact List.map_congr_left fun x hx => Int.toNat_of_nonneg (h x hx)
theorem letQ_lw {m : List Int} (h : ∀ k, 0 ≤ m.getD k 0) : letQ m = ltD (lwOf m) := by
  have e : (evn m 1).map D.int = ((evn m 1).map Int.toNat).map fun j => D.int ((j : Nat) : Int) := by
    have := congrArg (List.map D.int) (toNat_ints (evn_pos h (k := 1)))
    rw [List.map_map] at this
    exact this.symm
  unfold letQ lwOf
  rw [e]
  rfl
structure MsOk (ms : List (List Int)) : Prop where
  odd : ∀ m ∈ ms, 1 < m.length ∧ m.length % 2 = 1
  pos : ∀ m ∈ ms, ∀ k, 0 ≤ m.getD k 0
theorem MsOk.lts {ms : List (List Int)} (x : MsOk ms) : D.tup (ms.map letQ) = ltsD (ms.map lwOf) := by
  show D.tup (ms.map letQ) = D.tup ((ms.map lwOf).map ltD)
  rw [List.map_map]
  congr 1
  exact List.map_congr_left fun m hm => letQ_lw (x.pos m hm)
theorem MsOk.rows {ms : List (List Int)} : D.tup (ms.map hrQ) = rowsD (ms.map hrOf) := by
  show D.tup (ms.map hrQ) = D.tup ((ms.map hrOf).map rowD)
  rw [List.map_map]
  rfl
theorem evn_len (m : List Int) (k i : Nat) : i < (evn m k).length ↔ k + 2 * i < m.length := by
  constructor
  · intro h
    have e := List.getElem?_eq_getElem h
    rw [evn_get] at e
    exact (List.getElem?_eq_some_iff.mp e).1
  · intro h
    have e := List.getElem?_eq_getElem h
    rw [← evn_get] at e
    exact (List.getElem?_eq_some_iff.mp e).1
theorem evn_two_len {m : List Int} (h : m.length % 2 = 1) : (evn m 1).length = (m.length - 1) / 2 ∧ (evn m 2).length = (m.length - 1) / 2 := by
  have g : ∀ k n, (∀ i, i < n ↔ k + 2 * i < m.length) → (evn m k).length = n := by
    intro k n hn
    rcases Nat.lt_trichotomy (evn m k).length n with q | q | q
    · have h1 := (hn _).mp q
      have h2 := (evn_len m k _).mpr h1
      omega
    · exact q
    · have h1 := (evn_len m k _).mp q
      have h2 := (hn _).mpr h1
      omega
  exact ⟨g 1 _ fun i => by omega, g 2 _ fun i => by omega⟩
theorem MsOk.len {ms : List (List Int)} (x : MsOk ms) : LenOk (ms.map lwOf) (ms.map hrOf) := by
  refine ⟨by rw [List.length_map, List.length_map], fun k l r e1 e2 => ?_⟩
  obtain ⟨m, f1, rfl⟩ := map_get e1
  obtain ⟨m', f2, rfl⟩ := map_get e2
  rw [f1] at f2
  obtain rfl := Option.some.inj f2
  have h := evn_two_len (x.odd m (List.mem_of_getElem? f1)).2
  show (evn m 2).length = ((evn m 1).map Int.toNat).length
  rw [List.length_map, h.1, h.2]
def partD (qs ms : List (List Int)) : Str :=
  if areLetters (rdsQ qs) (.tup (ms.map letQ)) = false then "letters"
  else if earlyB (colQ 3 qs) (ms.map lwOf) (ms.map hrOf) = true then "early"
  else if fullB (colQ 2 qs) (ms.map lwOf) (ms.map hrOf) = true then "full" else "let"
inductive PartD (qs ms : List (List Int)) : Prop
  | ok : partD qs ms = "let" → DayOk (rdsQ qs) (colQ 2 qs) (colQ 3 qs) (ms.map lwOf) (ms.map hrOf) → PartD qs ms
  | bad : partD qs ms ∈ (["letters", "early", "full"] : List Str) → DueD (rdsQ qs) (colQ 2 qs) (colQ 3 qs) (.tup (ms.map letQ)) (.tup (ms.map hrQ)) (partD qs ms) → PartD qs ms
theorem part_day {qs ms : List (List Int)} (x : MsOk ms) : PartD qs ms := by
  have el := x.lts
  have er := MsOk.rows (ms := ms)
  have ln := x.len
  cases h1 : areLetters (rdsQ qs) (.tup (ms.map letQ)) with
  | false =>
    have e : partD qs ms = "letters" := by unfold partD; rw [if_pos h1]
    exact .bad (by rw [e]; simp) (by rw [e]; exact .letters h1)
  | true =>
    have n1 : ¬ areLetters (rdsQ qs) (.tup (ms.map letQ)) = false := by rw [h1]; decide
    obtain ⟨ls, e, o, l60⟩ := letters_inv h1
    rw [el] at e
    obtain rfl := lts_inj (D.tup.inj e)
    cases h2 : earlyB (colQ 3 qs) (ms.map lwOf) (ms.map hrOf) with
    | true =>
      have e : partD qs ms = "early" := by unfold partD; rw [if_neg n1, if_pos h2]
      exact .bad (by rw [e]; simp) (by rw [e, el, er]; exact .early o l60 ln h2)
    | false =>
      have n2 : ¬ earlyB (colQ 3 qs) (ms.map lwOf) (ms.map hrOf) = true := by rw [h2]; decide
      cases h3 : fullB (colQ 2 qs) (ms.map lwOf) (ms.map hrOf) with
      | true =>
        have e : partD qs ms = "full" := by unfold partD; rw [if_neg n1, if_neg n2, if_pos h3]
        exact .bad (by rw [e]; simp) (by rw [e, el, er]; exact .full o l60 ln h2 h3)
      | false =>
        have n3 : ¬ fullB (colQ 2 qs) (ms.map lwOf) (ms.map hrOf) = true := by rw [h3]; decide
        exact .ok (by unfold partD; rw [if_neg n1, if_neg n2, if_neg n3]) ⟨o, l60, ln, h2, h3⟩
theorem due_one {rds : List D} {rm tm : List Int} {d2 d3 : D} {p p' : Str} (a : DueD rds rm tm d2 d3 p) (b : DueD rds rm tm d2 d3 p') : p = p' := by
  cases a with
  | letters h =>
    cases b with
    | letters _ => rfl
    | hours o l _ => rw [letters_ok o l] at h; cases h
    | early o l _ _ => rw [letters_ok o l] at h; cases h
    | full o l _ _ _ => rw [letters_ok o l] at h; cases h
  | @hours ls _ o l h =>
    generalize e2 : ltsD ls = d at b
    cases b with
    | letters g => rw [← e2, letters_ok o l] at g; cases g
    | hours _ _ _ => rfl
    | early _ _ ln _ => obtain rfl := lts_inj (D.tup.inj e2); rw [hours_ok ln] at h; cases h
    | full _ _ ln _ _ => obtain rfl := lts_inj (D.tup.inj e2); rw [hours_ok ln] at h; cases h
  | @early ls rows o l ln h =>
    generalize e2 : ltsD ls = d at b
    generalize e3 : rowsD rows = d' at b
    cases b with
    | letters g => rw [← e2, letters_ok o l] at g; cases g
    | hours _ _ g => obtain rfl := lts_inj (D.tup.inj e2); rw [← e3, hours_ok ln] at g; cases g
    | early _ _ _ _ => rfl
    | full _ _ _ g _ =>
      obtain rfl := lts_inj (D.tup.inj e2)
      obtain rfl := rows_inj (D.tup.inj e3)
      rw [h] at g; cases g
  | @full ls rows o l ln h h' =>
    generalize e2 : ltsD ls = d at b
    generalize e3 : rowsD rows = d' at b
    cases b with
    | letters g => rw [← e2, letters_ok o l] at g; cases g
    | hours _ _ g => obtain rfl := lts_inj (D.tup.inj e2); rw [← e3, hours_ok ln] at g; cases g
    | early _ _ _ g =>
      obtain rfl := lts_inj (D.tup.inj e2)
      obtain rfl := rows_inj (D.tup.inj e3)
      rw [h] at g; cases g
    | full _ _ _ _ _ => rfl
/-- a letter's numbers from its way and its hours -/
theorem evn_join {m : List Int} (h : m.length % 2 = 1) : m = m.getD 0 0 :: flat2 ((evn m 1).zip (evn m 2)) := by
  obtain ⟨l1, l2⟩ := evn_two_len h
  have lz : ((evn m 1).zip (evn m 2)).length = (m.length - 1) / 2 := by rw [List.length_zip, l1, l2, Nat.min_self]
  refine List.ext_getElem? fun i => ?_
  cases i with
  | zero =>
    rw [List.getElem?_cons_zero, List.getD_eq_getElem?_getD, List.getElem?_eq_getElem (show 0 < m.length by omega)]
    rfl
  | succ i =>
    rw [List.getElem?_cons_succ]
    obtain ⟨j, hj⟩ : ∃ j, i = 2 * j ∨ i = 2 * j + 1 := ⟨i / 2, by omega⟩
    obtain ⟨f1, f2⟩ := flat2_get ((evn m 1).zip (evn m 2)) j
    have g1 := evn_get m 1 j
    have g2 := evn_get m 2 j
    by_cases hl : j < (m.length - 1) / 2
    · have z1 : ((evn m 1).zip (evn m 2))[j]? = some ((evn m 1)[j]'(by omega), (evn m 2)[j]'(by omega)) := by
        rw [List.getElem?_zip_eq_some]
        exact ⟨List.getElem?_eq_getElem (by omega), List.getElem?_eq_getElem (by omega)⟩
      rcases hj with rfl | rfl
      · rw [f1, z1, show 2 * j + 1 = 1 + 2 * j by omega, ← g1, List.getElem?_eq_getElem (show j < (evn m 1).length by omega)]; rfl
      · rw [f2, z1, show 2 * j + 1 + 1 = 2 + 2 * j by omega, ← g2, List.getElem?_eq_getElem (show j < (evn m 2).length by omega)]; rfl
    · rw [List.getElem?_eq_none (show m.length ≤ i + 1 by omega), List.getElem?_eq_none (by rw [flat2_len, lz]; omega)]
end Hc


set_option Elab.async false
set_option linter.all false
set_option maxRecDepth 100000
set_option maxHeartbeats 4000000
set_option autoImplicit false
namespace Hc
open PySem L2
def farW (qs : List (List Int)) (W : List Int) : Bool := W.any fun x => decide (((qs.length : Nat) : Int) ≤ x)
def gapAt (qs : List (List Int)) (W : List Int) (j : Nat) : Bool := !decide ((qs.getD (W.getD j 0).toNat []).getD 1 0 = (qs.getD (W.getD (j + 1) 0).toNat []).getD 0 0)
def gapW (qs : List (List Int)) (W : List Int) : Bool := (List.range (W.length - 1)).any (gapAt qs W)
theorem en_q (qs : List (List Int)) (a : Int) : en (dAt (rdsQ qs) a) = (qs.getD a.toNat []).getD 1 0 ∧ bg (dAt (rdsQ qs) a) = (qs.getD a.toNat []).getD 0 0 := by
  unfold dAt rdsQ
  have e : qs.getD a.toNat [] = qs[a.toNat]?.getD [] := List.getD_eq_getElem?_getD ..
  rw [e, List.getD_eq_getElem?_getD, List.getElem?_map]
  cases qs[a.toNat]? with
  | none => exact ⟨rfl, rfl⟩
  | some q => exact ⟨rfl, rfl⟩
theorem isLet_eq {qs : List (List Int)} {m : List Int} (hp : ∀ k, 0 ≤ m.getD k 0) (ho : 1 < m.length ∧ m.length % 2 = 1) :
    isLetter (rdsQ qs) (letQ m) = ((decide (1 ≤ m.getD 0 0) && decide (m.getD 0 0 ≤ 1000000)) && (!decide (8 < (evn m 1).length) && (!farW qs (evn m 1) && !gapW qs (evn m 1)))) := by
  have l1 := (evn_two_len ho.2).1
  have pos := evn_pos hp (k := 1)
  have lq : (rdsQ qs).length = qs.length := List.length_map _
  show (isWay (rdsQ qs) (.tup ((evn m 1).map D.int)) && (decide (1 ≤ m.getD 0 0) && decide (m.getD 0 0 ≤ 1000000))) = _
  generalize evn m 1 = W at *
  rw [isWay_tup, List.length_map, decide_eq_true (show 1 ≤ W.length by omega), Bool.true_and]
  have a2 : decide (W.length ≤ 8) = !decide (8 < W.length) := by
    by_cases h : 8 < W.length
    · rw [decide_eq_true h, decide_eq_false (by omega)]; rfl
    · rw [decide_eq_false h, decide_eq_true (by omega)]; rfl
  have a3 : (W.map D.int).all (isRoad (rdsQ qs)) = !(farW qs W) := by
    rw [Bool.eq_iff_iff, Bool.not_eq_true', List.all_eq_true]
    unfold farW
    rw [List.any_eq_false]
    constructor
    · intro h x hx
      have h1 := h (.int x) (List.mem_map.mpr ⟨x, hx, rfl⟩)
      have h1 : (decide (0 ≤ x) && decide (x ≤ ((rdsQ qs).length : Int) - 1)) = true := h1
      rw [Bool.and_eq_true] at h1
      have h2 := of_decide_eq_true h1.2
      rw [lq] at h2
      intro z
      have := of_decide_eq_true z
      omega
    · intro h d hd
      obtain ⟨x, hx, rfl⟩ := List.mem_map.mp hd
      have h1 := h x hx
      have h2 : ¬ ((qs.length : Nat) : Int) ≤ x := fun z => h1 (decide_eq_true z)
      show (decide (0 ≤ x) && decide (x ≤ ((rdsQ qs).length : Int) - 1)) = true
      rw [lq, decide_eq_true (pos x hx), decide_eq_true (by omega)]; rfl
  have a4 : adj (fun a b => decide (en (dAt (rdsQ qs) a) = bg (dAt (rdsQ qs) b))) ((W.map D.int).map num) = !(gapW qs W) := by
    have e : (W.map D.int).map num = W := by
      rw [List.map_map]
      conv => rhs; rw [← List.map_id W]
      exact List.map_congr_left fun _ _ => rfl
    rw [e]
    unfold adj gapW
    rw [Bool.eq_iff_iff, Bool.not_eq_true', List.all_eq_true, List.any_eq_false]
    unfold gapAt
    constructor
    · intro h j hj
      have h1 : decide (en (dAt (rdsQ qs) (W.getD j 0)) = bg (dAt (rdsQ qs) (W.getD (j + 1) 0))) = true := h j hj
      rw [(en_q qs _).1, (en_q qs _).2] at h1
      rw [h1]; decide
    · intro h j hj
      have h1 := h j hj
      show decide (en (dAt (rdsQ qs) (W.getD j 0)) = bg (dAt (rdsQ qs) (W.getD (j + 1) 0))) = true
      rw [(en_q qs _).1, (en_q qs _).2]
      rw [Bool.not_eq_true, Bool.not_eq_false'] at h1
      exact h1
  rw [a2, a3, a4]
  generalize (decide (1 ≤ m.getD 0 0) && decide (m.getD 0 0 ≤ 1000000)) = A
  generalize decide (8 < W.length) = B
  generalize farW qs W = C
  generalize gapW qs W = E
  cases A <;> cases B <;> cases C <;> cases E <;> rfl
/-- a filter's new list is empty just if nothing is found -/
def FndG {α : Type} (g : α → Bool) (qs : List α) (D : Addr) (H : Hp) (i : Nat) (H' : Hp) : Prop := Same H H' ∧ ∃ zs : List V, H' D = some (.lst zs) ∧ (0 < zs.length ↔ (qs.take i).any g = true) ∧ zs.length ≤ i
theorem FndG.no {α : Type} {g : α → Bool} {qs : List α} {D : Addr} {H : Hp} {i : Nat} {H' : Hp} (x : FndG g qs D H i H') {q : α} (e : qs[i]? = some q) (h : g q = false) : FndG g qs D H (i + 1) H' := by
  obtain ⟨s, zs, a, b, c⟩ := x
  exact ⟨s, zs, a, by rw [take_more e, List.any_append, b]; simp [h], by omega⟩
theorem FndG.yes {α : Type} {g : α → Bool} {qs : List α} {D : Addr} {H : Hp} {i : Nat} {H' : Hp} (x : FndG g qs D H i H') {q : α} (e : qs[i]? = some q) (h : g q = true) (hD : H D = none) (hi : i < 90000) (y : V) : ∃ acc, H' D = some (.lst acc) ∧ acc.length < sizeLine ∧ FndG g qs D H (i + 1) (upd H' D (.lst (acc ++ [y]))) := by
  obtain ⟨s, zs, a, b, c⟩ := x
  exact ⟨zs, a, line_lt (by omega), same_putX s hD, _, upd_same, by rw [take_more e, List.any_append, List.length_append]; simp [h], by rw [List.length_append, List.length_singleton]; omega⟩
theorem partD_one {qs ms : List (List Int)} {m : List Int} (hm : m ∈ ms) (h : isLetter (rdsQ qs) (letQ m) = false) : partD qs ms = "letters" := by
  have : areLetters (rdsQ qs) (.tup (ms.map letQ)) = false := by
    rw [areLetters_tup, Bool.and_eq_false_iff]
    right
    rw [List.all_eq_false]
    exact ⟨letQ m, List.mem_map.mpr ⟨m, hm, rfl⟩, by rw [h]; decide⟩
  unfold partD
  rw [if_pos this]
theorem partD_many {qs ms : List (List Int)} (h : 60 < ms.length) : partD qs ms = "letters" := by
  have : areLetters (rdsQ qs) (.tup (ms.map letQ)) = false := by
    rw [areLetters_tup, List.length_map, decide_eq_false (by omega)]; rfl
  unfold partD
  rw [if_pos this]
theorem partD_lets {qs ms : List (List Int)} (h60 : ms.length ≤ 60) (h : ∀ m ∈ ms, isLetter (rdsQ qs) (letQ m) = true) :
    partD qs ms = if earlyB (colQ 3 qs) (ms.map lwOf) (ms.map hrOf) = true then ("early" : Str) else if fullB (colQ 2 qs) (ms.map lwOf) (ms.map hrOf) = true then ("full" : Str) else ("let" : Str) := by
  have : areLetters (rdsQ qs) (.tup (ms.map letQ)) = true := by
    rw [areLetters_tup, List.length_map, decide_eq_true h60, Bool.true_and, List.all_eq_true]
    intro d hd
    obtain ⟨m, hm, rfl⟩ := List.mem_map.mp hd
    exact h m hm
  unfold partD
  rw [if_neg (by rw [this]; decide)]
theorem get0 {m : List Int} (h : 0 < m.length) {k : Nat} (hk : k < m.length) : (m.map V.int)[k]? = some (.int (m.getD k 0)) := by
  rw [List.getElem?_map, List.getD_eq_getElem?_getD, List.getElem?_eq_getElem hk]; rfl
theorem road_at {H0 H : Hp} {rs : List V} {qs : List (List Int)} (lr : rs.length = qs.length) (h4 : ∀ q ∈ qs, q.length = 4)
    (hr : ∀ (i : Nat) (v : V) (q : List Int), rs[i]? = some v → qs[i]? = some q → ∃ l, v = .ref l ∧ H0 l = some (.lst (q.map V.int))) (s : Same H0 H) {x : Int} (x0 : 0 ≤ x) (x1 : x < ((qs.length : Nat) : Int)) :
    ∃ l, atI rs x = some (.ref l) ∧ H l = some (.lst ((qs.getD x.toNat []).map V.int)) ∧ (qs.getD x.toNat []).length = 4 := by
  obtain ⟨i, rfl⟩ := Int.eq_ofNat_of_zero_le x0
  have hi : i < qs.length := by omega
  have e1 := List.getElem?_eq_getElem (show i < rs.length by omega)
  have e2 := List.getElem?_eq_getElem hi
  obtain ⟨l, e3, e4⟩ := hr i _ _ e1 e2
  rw [e3] at e1
  have e5 : qs.getD ((i : Nat) : Int).toNat [] = qs[i] := by
    rw [Int.toNat_natCast, List.getD_eq_getElem?_getD, e2]; rfl
  rw [e5]
  exact ⟨l, atI_nat e1, s _ _ e4, h4 _ (List.getElem_mem hi)⟩
end Hc


set_option Elab.async false
set_option linter.all false
set_option maxRecDepth 100000
set_option maxHeartbeats 4000000
set_option autoImplicit false
namespace Hc
open PySem L2
def psM (m : List Int) : List (Nat × Int) := (lwOf m).1.zip (hrOf m)
theorem es_M : ∀ ms : List (List Int), es (ms.map lwOf) (ms.map hrOf) = ms.flatMap psM
  | [] => rfl
  | m :: ms => by
    show psM m ++ es (ms.map lwOf) (ms.map hrOf) = _
    rw [es_M ms, List.flatMap_cons]
def lowM (tm : List Int) (m : List Int) : Nat → Int
  | 0 => m.getD 0 0
  | j + 1 => m.getD (2 + 2 * j) 0 + tm.getD (m.getD (1 + 2 * j) 0).toNat 0
def prM (tm : List Int) (m : List Int) : List (Int × Int) := (hrOf m).zip (firstL tm (lwOf m) (hrOf m))
def lateB (q : Int × Int) : Bool := decide (q.1 < q.2)
theorem early_M (tm : List Int) (ms : List (List Int)) : earlyB tm (ms.map lwOf) (ms.map hrOf) = ms.any fun m => (prM tm m).any lateB := by
  unfold earlyB
  rw [List.zip_map', List.any_map]
  rfl
theorem evn_getD {m : List Int} {k j : Nat} : (evn m k).getD j 0 = m.getD (k + 2 * j) 0 := by
  rw [List.getD_eq_getElem?_getD, List.getD_eq_getElem?_getD, evn_get]
theorem evn_at {m : List Int} {k j : Nat} (h : k + 2 * j < m.length) : (evn m k)[j]? = some (m.getD (k + 2 * j) 0) := by
  rw [evn_get, List.getD_eq_getElem?_getD, List.getElem?_eq_getElem h]; rfl
theorem low_get {tm m : List Int} (ho : m.length % 2 = 1) {j : Nat} (hj : 2 + 2 * j < m.length) : (firstL tm (lwOf m) (hrOf m))[j]? = some (lowM tm m j) := by
  cases j with
  | zero => rfl
  | succ j =>
    obtain ⟨l1, l2⟩ := evn_two_len ho
    have hw : (lwOf m).1[j]? = some (m.getD (1 + 2 * j) 0).toNat := by
      show ((evn m 1).map Int.toNat)[j]? = _
      rw [List.getElem?_map, evn_at (by omega)]; rfl
    have hh : ((hrOf m).take ((hrOf m).length - 1))[j]? = some (m.getD (2 + 2 * j) 0) := by
      have : (hrOf m).length = (m.length - 1) / 2 := l2
      rw [List.getElem?_take, if_pos (by omega)]
      exact evn_at (by omega)
    have hz : ((lwOf m).1.zip ((hrOf m).take ((hrOf m).length - 1)))[j]? = some ((m.getD (1 + 2 * j) 0).toNat, m.getD (2 + 2 * j) 0) := by
      rw [List.getElem?_zip_eq_some]; exact ⟨hw, hh⟩
    show ((((lwOf m).1.zip ((hrOf m).take ((hrOf m).length - 1))).map fun p => p.2 + tm.getD p.1 0))[j]? = _
    rw [List.getElem?_map, hz]
    rfl
theorem pr_get {tm m : List Int} (ho : m.length % 2 = 1) {j : Nat} (hj : 2 + 2 * j < m.length) : (prM tm m)[j]? = some (m.getD (2 + 2 * j) 0, lowM tm m j) := by
  unfold prM
  rw [List.getElem?_zip_eq_some]
  exact ⟨evn_at hj, low_get ho hj⟩
theorem pr_len {tm m : List Int} (ho : m.length % 2 = 1) : (prM tm m).length ≤ (m.length - 1) / 2 := by
  unfold prM
  rw [List.length_zip]
  have : (hrOf m).length = (m.length - 1) / 2 := (evn_two_len ho).2
  omega
theorem ps_get {m : List Int} {j : Nat} (hj : 2 + 2 * j < m.length) : (psM m)[j]? = some ((m.getD (1 + 2 * j) 0).toNat, m.getD (2 + 2 * j) 0) := by
  unfold psM
  rw [List.getElem?_zip_eq_some]
  refine ⟨?_, evn_at hj⟩
  show ((evn m 1).map Int.toNat)[j]? = _
  rw [List.getElem?_map, evn_at (by omega)]; rfl
theorem ps_len {m : List Int} (ho : m.length % 2 = 1) : (psM m).length = (m.length - 1) / 2 := by
  unfold psM
  have h1 : (lwOf m).1.length = (m.length - 1) / 2 := by
    show ((evn m 1).map Int.toNat).length = _
    rw [List.length_map]; exact (evn_two_len ho).1
  have h2 : (hrOf m).length = (m.length - 1) / 2 := (evn_two_len ho).2
  rw [List.length_zip, h1, h2, Nat.min_self]
theorem fits_long {i : Int} (h0 : -1000000 ≤ i) (h1 : i ≤ 1000000) : Builtin.Range.rangeFitsLong i = true := by
  unfold Builtin.Range.rangeFitsLong
  simp
  omega
theorem rg_two {n : Nat} (ho : n % 2 = 1) (h1 : 1 < n) (hn : n ≤ 10000) : RgC 1 ((n : Nat) : Int) 2 ((n - 1) / 2) := by
  have hs : Builtin.Range.rangeSize 1 ((n : Nat) : Int) 2 = (((n - 1) / 2 : Nat) : Int) := by
    unfold Builtin.Range.rangeSize
    rw [if_pos (by decide), if_pos (by omega)]
    have e : ((n : Nat) : Int) - 1 - 1 = 2 * (((n - 1) / 2 : Nat) : Int) - 1 := by omega
    rw [e]
    omega
  refine ⟨by decide, by decide, ?_, hs⟩
  unfold Builtin.Range.small
  simp
  rw [hs]
  exact ⟨⟨⟨⟨fits_long (by decide) (by decide), fits_long (by omega) (by omega)⟩, fits_long (by decide) (by decide)⟩, fits_long (by omega) (by omega)⟩, .inr (fits_long (by omega) (by omega))⟩
theorem col_get {qs : List (List Int)} {k i : Nat} : (colQ k qs).getD i 0 = (qs.getD i []).getD k 0 := by
  have e : qs.getD i [] = qs[i]?.getD [] := List.getD_eq_getElem?_getD ..
  rw [e, List.getD_eq_getElem?_getD]
  unfold colQ
  rw [List.getElem?_map]
  cases qs[i]? <;> rfl
theorem let_facts {qs : List (List Int)} {m : List Int} (hp : ∀ k, 0 ≤ m.getD k 0) (ho : 1 < m.length ∧ m.length % 2 = 1) (h : isLetter (rdsQ qs) (letQ m) = true) :
    (m.length - 1) / 2 ≤ 8 ∧ ∀ j, 2 + 2 * j < m.length → 0 ≤ m.getD (1 + 2 * j) 0 ∧ m.getD (1 + 2 * j) 0 < ((qs.length : Nat) : Int) := by
  rw [isLet_eq hp ho] at h
  simp only [Bool.and_eq_true] at h
  obtain ⟨_, h8, hf, _⟩ := h
  rw [Bool.not_eq_true'] at h8 hf
  have h8 := of_decide_eq_false h8
  rw [(evn_two_len ho.2).1] at h8
  refine ⟨by omega, fun j hj => ⟨hp _, ?_⟩⟩
  unfold farW at hf
  rw [List.any_eq_false] at hf
  have := hf _ (List.mem_of_getElem? (evn_at (m := m) (k := 1) (j := j) (by omega)))
  have : ¬ ((qs.length : Nat) : Int) ≤ m.getD (1 + 2 * j) 0 := fun z => this (decide_eq_true z)
  omega
def PrAt (H : Hp) (A : Addr) (L : List (Nat × Int)) : Prop := ∃ vs : List V, H A = some (.lst vs) ∧ vs.length = L.length ∧ ∀ (j : Nat) (v : V) (e : Nat × Int), vs[j]? = some v → L[j]? = some e → ∃ t, v = .ref t ∧ H t = some (.tup [.int ((e.1 : Nat) : Int), .int e.2])
theorem PrAt.snoc {H : Hp} {A T : Addr} {L : List (Nat × Int)} {vs : List V} {e : Nat × Int} (eA : H A = some (.lst vs)) (lv : vs.length = L.length)
    (hv : ∀ (j : Nat) (v : V) (e : Nat × Int), vs[j]? = some v → L[j]? = some e → ∃ t, v = .ref t ∧ H t = some (.tup [.int ((e.1 : Nat) : Int), .int e.2])) (hT : H T = none) :
    PrAt (upd (upd H T (.tup [.int ((e.1 : Nat) : Int), .int e.2])) A (.lst (vs ++ [.ref T]))) A (L ++ [e]) := by
  have nA := ne_of_none eA hT
  refine ⟨_, upd_same, by rw [List.length_append, List.length_append, lv]; rfl, fun j v e' e1 e2 => ?_⟩
  by_cases hj : j < vs.length
  · rw [List.getElem?_append_left hj] at e1
    rw [List.getElem?_append_left (by omega)] at e2
    obtain ⟨t, rfl, et⟩ := hv j v e' e1 e2
    have n1 : t ≠ A := fun z => by rw [z, eA] at et; cases et
    exact ⟨t, rfl, (upd_ne n1).trans (same_upd hT _ _ et)⟩
  · rw [List.getElem?_append_right (by omega)] at e1 e2
    rw [lv] at e1
    cases z : j - L.length with
    | succ m => rw [z] at e1; simp at e1
    | zero =>
      rw [z] at e1 e2
      obtain rfl : v = .ref T := by simpa using e1.symm
      obtain rfl : e' = e := by simpa using e2.symm
      exact ⟨T, rfl, (upd_ne (Ne.symm nA)).trans upd_same⟩
end Hc


set_option Elab.async false
set_option linter.all false
set_option pp.maxSteps 900
set_option maxRecDepth 100000
set_option maxHeartbeats 4000000
set_option autoImplicit false
namespace Hc
open PySem L2
def rLenQ (K : PySem.W.Frag) : List V → Hp → VK → Prop := fun xs H Q => ∃ p ys, xs = [V.ref p] ∧ (SqL K H p ys ∨ SqT K H p ys) ∧ Q (V.int ys.length) H

section
variable {P : Program} {w : World} {K : PySem.W.Frag} {mg : Str → Option Value} {base : Heap}
def spDayPart : Sp := fun vs H Q _ => ∃ (pr pl : Addr) (qs ms : List (List Int)), vs = [.ref pr, .ref pl] ∧ ListsAt H pr qs ∧ ListsAt H pl ms ∧ qs.length ≤ 24 ∧ (∀ q ∈ qs, q.length = 4) ∧ MsOk ms ∧ ms.length ≤ 10000 ∧ (∀ m ∈ ms, m.length ≤ 10000) ∧ ∀ H', Same H H' → Q (.str (partD qs ms)) H'
theorem ok__law_day_part (T : Tx K mg) : FnOk P w K mg base CX0 1 T._law_day_part.f T._law_day_part.fd ["_law_roads", "_law_letters_here"] spDayPart := by
  refine T._law_day_part.F.ok sc_law_day_part (fun vs H Q E h => ?_) (fun cdv A outer s H vs Q E hr h => ?_)
  · obtain ⟨pr, pl, qs, ms, rfl, _⟩ := h
    rfl
  · obtain ⟨pr, pl, qs, ms, rfl, R, L, l24, h4, M, lm, l10, k⟩ := h
    refine ⟨_, (pss_cons (ps_set (i := 2) sc_law_day_part.nd rfl (Or.inr rfl) (pe_lst pa_nil))
      (pss_cons (ps_set (i := 3) sc_law_day_part.nd rfl (Or.inl rfl) pe_bl)
      (pss_cons (ps_for PassesOwn.never rfl (pi_list (pv 1)) (pg_name (i := 4) sc_law_day_part.nd rfl (Or.inl rfl))
      (pss_cons (ps_set (i := 5) sc_law_day_part.nd rfl (Or.inr rfl) (pe_evn (pv 4)))
      (pss_cons (ps_if (PW.pt (pw_or (pt_not (pt_chain op_le op_le pe_int (pe_ix ix_list (pv 4) pe_int (fun _ _ => rfl)) (pe_op op_pow pe_int pe_int))) (pw_or (pt_cmpR op_gt (pe_callB call_len_seq (by rfl) T.n_len (by decide +kernel) (pa_cons (pv 5) pa_nil)) pe_int (nomark _)) (pw_or1 (pt_cmpR op_gt (pe_callB call_len_seq (by rfl) T.n_len (by decide +kernel) (pa_cons (pe_lc (own := [("_law_road", 8)]) (g := (gName 8))  (tt := (tTest (tOp (rI0 fun i j => .bl (decide (j ≤ i))) (tVar 8) (tCB (rLenQ K) (tCons (tVar 0) tNil))))) rfl sc_law_day_part.nd (pi_list (pv 5)) (blkOk_by (own := [("_law_road", 8)]) (N := ["_law_roads", "_law_letters_here", "_law_passed", "_law_early", "_law_numbers", "_law_way_here", "_law_low", "_law_place", "_law_road", "_law_at", "_law_one"]) (sc := defScope s_law_day_part) (by decide +kernel)) (fun _ _ _ _ _ => (pg_name (i := 8) sc_law_day_part.nd rfl (Or.inl rfl))) (fun _ _ _ _ _ => (pts_one (by exact (pt_cmpR op_ge (pv 8) (pe_callB call_len_seq (by rfl) T.n_len (by decide +kernel) (pa_cons (pv 0) pa_nil)) (nomark _))))) (fun _ _ _ _ _ => (by exact (pv 8)))) pa_nil)) pe_int (nomark _))))))
      (pss_one (ps_ret pe_str))
      pss_nil)
      (pss_one (ps_if (pt_cmpR op_gt (pe_callB call_len_seq (by rfl) T.n_len (by decide +kernel) (pa_cons (pe_lc (own := [("_law_at", 9)]) (g := (gName 9))  (tt := (tTest (tOp rNe (tOp (rIxL K) (tOp (rIxL K) (tVar 0) (tOp (rIxL K) (tVar 5) (tVar 9))) (tC (.int 0))) (tOp (rIxL K) (tOp (rIxL K) (tVar 0) (tOp (rIxL K) (tVar 5) (tOp (rI0 fun i j => .int (i - j)) (tVar 9) (tC (.int 1))))) (tC (.int 1)))))) rfl sc_law_day_part.nd (pi_range2 (by rfl) T.n_range (pa_cons pe_int (pa_cons (pe_callB call_len_seq (by rfl) T.n_len (by decide +kernel) (pa_cons (pv 5) pa_nil)) pa_nil))) (blkOk_by (own := [("_law_at", 9)]) (N := ["_law_roads", "_law_letters_here", "_law_passed", "_law_early", "_law_numbers", "_law_way_here", "_law_low", "_law_place", "_law_road", "_law_at", "_law_one"]) (sc := defScope s_law_day_part) (by decide +kernel)) (fun _ _ _ _ _ => (pg_name (i := 9) sc_law_day_part.nd rfl (Or.inl rfl))) (fun _ _ _ _ _ => (pts_one (by exact (pt_cmpR op_ne (pe_ix ix_list (pe_ix ix_list (pv 0) (pe_ix ix_list (pv 5) (pv 9) (fun _ _ => rfl)) (fun _ _ => rfl)) pe_int (fun _ _ => rfl)) (pe_ix ix_list (pe_ix ix_list (pv 0) (pe_ix ix_list (pv 5) (pe_op op_sub (pv 9) pe_int) (fun _ _ => rfl)) (fun _ _ => rfl)) pe_int (fun _ _ => rfl)) (nomark _))))) (fun _ _ _ _ _ => (by exact (pv 9)))) pa_nil)) pe_int (nomark _))
      (pss_one (ps_ret pe_str))
      pss_nil)))))
      (pss_cons (ps_if (pt_cmpR op_gt (pe_callB call_len_seq (by rfl) T.n_len (by decide +kernel) (pa_cons (pv 1) pa_nil)) pe_int (nomark _))
      (pss_one (ps_ret pe_str))
      pss_nil)
      (pss_cons (ps_for PassesOwn.never rfl (pi_list (pv 1)) (pg_name (i := 4) sc_law_day_part.nd rfl (Or.inl rfl))
      (pss_cons (ps_set (i := 6) sc_law_day_part.nd rfl (Or.inl rfl) (pe_ix ix_list (pv 4) pe_int (fun _ _ => rfl)))
      (pss_one (ps_for PassesOwn.never rfl (pi_range3 (by rfl) T.n_range (pa_cons pe_int (pa_cons (pe_callB call_len_seq (by rfl) T.n_len (by decide +kernel) (pa_cons (pv 4) pa_nil)) (pa_cons pe_int pa_nil)))) (pg_name (i := 7) sc_law_day_part.nd rfl (Or.inl rfl))
      (pss_cons (ps_set (i := 3) sc_law_day_part.nd rfl (Or.inl rfl) (pe_or (pv 3) (pe_one (pe_cmpR op_lt (pe_ix ix_list (pv 4) (pe_op op_add (pv 7) pe_int) (fun _ _ => rfl)) (pv 6) (nomark _)))))
      (pss_cons (ps_set (i := 6) sc_law_day_part.nd rfl (Or.inl rfl) (pe_op op_add (pe_ix ix_list (pv 4) (pe_op op_add (pv 7) pe_int) (fun _ _ => rfl)) (pe_ix ix_list (pe_ix ix_list (pv 0) (pe_ix ix_list (pv 4) (pv 7) (fun _ _ => rfl)) (fun _ _ => rfl)) pe_int (fun _ _ => rfl))))
      (pss_one (ps_expr (pe_bm PySem.F.plainAttrs_list PySem.F.slot_list_append PySem.F.type_list_append mt_append (pv 2) (pa_cons (pe_tup (pa_cons (pe_ix ix_list (pv 4) (pv 7) (fun _ _ => rfl)) (pa_cons (pe_ix ix_list (pv 4) (pe_op op_add (pv 7) pe_int) (fun _ _ => rfl)) pa_nil))) pa_nil))))))))))
      (pss_cons (ps_if (pt_val (pv 3))
      (pss_one (ps_ret pe_str))
      pss_nil)
      (pss_cons (ps_if (pt_cmpR op_gt (pe_callB call_len_seq (by rfl) T.n_len (by decide +kernel) (pa_cons (pe_lc (own := [("_law_one", 10)]) (g := (gName 10))  (tt := (tTest (tOp (rI0 fun i j => .bl (decide (j < i))) (tBM K "list" (rCountD K) (tVar 2) (tCons (tVar 10) tNil)) (tOp (rIxL K) (tOp (rIxL K) (tVar 0) (tOp (rIxT K) (tVar 10) (tC (.int 0)))) (tC (.int 2)))))) rfl sc_law_day_part.nd (pi_list (pv 2)) (blkOk_by (own := [("_law_one", 10)]) (N := ["_law_roads", "_law_letters_here", "_law_passed", "_law_early", "_law_numbers", "_law_way_here", "_law_low", "_law_place", "_law_road", "_law_at", "_law_one"]) (sc := defScope s_law_day_part) (by decide +kernel)) (fun _ _ _ _ _ => (pg_name (i := 10) sc_law_day_part.nd rfl (Or.inl rfl))) (fun _ _ _ _ _ => (pts_one (by exact (pt_cmpR op_gt (pe_bm PySem.F.plainAttrs_list PySem.F.slot_list_count PySem.F.type_list_count (mt_countD (units65 hr)) (pv 2) (pa_cons (pv 10) pa_nil)) (pe_ix ix_list (pe_ix ix_list (pv 0) (pe_ix ix_tup (pv 10) pe_int (fun _ _ => rfl)) (fun _ _ => rfl)) pe_int (fun _ _ => rfl)) (nomark _))))) (fun _ _ _ _ _ => (by exact (pv 10)))) pa_nil)) pe_int (nomark _))
      (pss_one (ps_ret pe_str))
      pss_nil)
      (pss_one (ps_ret pe_str))))))))), ?_⟩
    obtain ⟨rs, eR, lr, hr'⟩ := R
    obtain ⟨ws, eL, lw, hw⟩ := L
    refine ⟨by show 0 ≤ sizeLine; decide, fun A hA => ?_⟩
    obtain ⟨s1, e1⟩ : Same H (upd H A (.lst [])) ∧ (upd H A (.lst [])) A = some (.lst []) := ⟨same_upd hA, upd_same⟩
    change gName 2 (.ref A) _ (upd H A (.lst [])) _
    generalize upd H A (.lst []) = H1 at s1 e1 ⊢
    refine ⟨_, rfl, pl, rfl, ⟨_, SqL.of (s1 _ _ eL)⟩, ?_⟩
    refine for_list (K := K) (a := pl) (xs := ws) (fun i σ' H' => ∃ (o4 o5 : Option V), σ' = [some (.ref pr), some (.ref pl), some (.ref A), some (.bl false), o4, o5, none, none, none, none, none] ∧ Same H1 H' ∧ ∀ j < i, ∀ m, ms[j]? = some m → isLetter (rdsQ qs) (letQ m) = true)
      ⟨_, _, rfl, Same.refl _, fun j hj => absurd hj (by omega)⟩ (fun i σ' H' _ ⟨_, _, _, g, _⟩ => SqL.of (g _ _ (s1 _ _ eL))) ?_ ?_
    · rintro i v σ' H2 hx ⟨o4, o5, rfl, s2, ok⟩
      have hi : i < ms.length := by rw [← lw]; exact (List.getElem?_eq_some_iff.mp hx).1
      have em := List.getElem?_eq_getElem hi
      obtain ⟨l, rfl, el⟩ := hw i v _ hx em
      have hm := List.getElem_mem hi
      have mo := M.odd _ hm
      have mp := M.pos _ hm
      have m10 := l10 _ hm
      generalize ms[i] = m at *
      have sA := s1.trans s2
      have el2 := sA _ _ el
      have eR2 := sA _ _ eR
      refine ⟨_, rfl, l, _, 1, rfl, rfl, SqL.of el2, by rw [List.length_map]; omega, fun B hB => ?_⟩
      rw [evn_map]
      have s3 := same_upd (o := .lst ((evn m 1).map V.int)) hB
      have eB := upd_same (H := H2) (a := B) (o := .lst ((evn m 1).map V.int))
      change gName 5 (.ref B) _ (upd H2 B (.lst ((evn m 1).map V.int))) _
      generalize upd H2 B (.lst ((evn m 1).map V.int)) = H3 at s3 eB ⊢
      have sB := sA.trans s3
      have el3 := s3 _ _ el2
      have eR3 := s3 _ _ eR2
      have IL := isLet_eq (qs := qs) mp mo
      have kL : isLetter (rdsQ qs) (letQ m) = false → ∀ H', Same H H' → Q (.str "letters") H' := fun e H' z => by
        have := k H' z
        rw [partD_one hm e] at this
        exact this
      refine ⟨_, rfl, l, _, 0, _, rfl, rfl, SqL.of el3, atI_nat (j := 0) (get0 (by omega) (by omega)), _, _, rfl, rfl, _, rfl, ?_⟩
      by_cases c1 : 1 ≤ m.getD 0 0
      rotate_left
      · rw [decide_eq_false c1]
        exact iteF ⟨_, rfl, iteT (iteT (kL (by rw [IL, decide_eq_false c1]; rfl) _ sB))⟩
      rw [decide_eq_true c1]
      have e6 : (10 : Int) ^ (6 : Int).toNat = 1000000 := by decide
      refine iteT ⟨_, _, rfl, rfl, by unfold CPow; decide, _, _, rfl, rfl, _, rfl, ?_⟩
      rw [e6]
      by_cases c2 : m.getD 0 0 ≤ 1000000
      rotate_left
      · rw [decide_eq_false c2]
        exact iteT (iteT (kL (by rw [IL, decide_eq_false c2, Bool.and_false]; rfl) _ sB))
      rw [decide_eq_true c2]
      rw [decide_eq_true c1, decide_eq_true c2, Bool.true_and, Bool.true_and] at IL
      refine iteF ⟨_, rfl, B, _, rfl, .inl (SqL.of eB), _, _, rfl, rfl, _, rfl, ?_⟩
      rw [List.length_map]
      have wpos := evn_pos mp (k := 1)
      generalize evn m 1 = W at *
      by_cases c3 : (8 : Int) < ((W.length : Nat) : Int)
      · rw [decide_eq_true c3]
        exact iteT (iteT (kL (by rw [IL, decide_eq_true (by omega)]; rfl) _ sB))
      rw [decide_eq_false c3]
      rw [decide_eq_false (show ¬ 8 < W.length by omega), Bool.not_false, Bool.true_and] at IL
      refine iteF ⟨_, rfl, B, rfl, ⟨_, SqL.of eB⟩, fun D hD => ?_⟩
      refine lc_list (K := K) (a := B) (xs := W.map V.int) (FndG (fun x => decide (((qs.length : Nat) : Int) ≤ x)) W D H3) ⟨same_upd hD, [], upd_same, by simp, Nat.le_refl _⟩ (fun i H' _ z => SqL.of (z.1 _ _ eB)) ?_ ?_
      · rintro j v H4 hx F
        obtain ⟨x, ex, rfl⟩ := map_get hx
        have hj : j < W.length := (List.getElem?_eq_some_iff.mp ex).1
        refine ⟨rfl, _, rfl, _, rfl, pr, _, rfl, .inl (SqL.of (F.1 _ _ eR3)), _, _, rfl, rfl, _, rfl, ?_⟩
        rw [lr]
        by_cases c4 : ((qs.length : Nat) : Int) ≤ x
        · rw [decide_eq_true c4]
          exact iteT ⟨_, rfl, F.yes ex (decide_eq_true c4) hD (by omega) _⟩
        · rw [decide_eq_false c4]
          exact iteF (F.no ex (decide_eq_false c4))
      rintro H4 ⟨s4, zs, eD, hz, lz⟩
      rw [List.length_map, List.take_length] at hz
      have far : W.any (fun x => decide (((qs.length : Nat) : Int) ≤ x)) = farW qs W := rfl
      rw [far] at hz
      refine ⟨D, _, rfl, .inl (SqL.of eD), _, _, rfl, rfl, _, rfl, ?_⟩
      have sC := sB.trans s4
      by_cases c5 : (0 : Int) < ((zs.length : Nat) : Int)
      · rw [decide_eq_true c5]
        exact iteT (kL (by rw [IL, hz.mp (by omega)]; rfl) _ sC)
      rw [decide_eq_false c5]
      have nf : farW qs W = false := by
        cases q : farW qs W with
        | false => rfl
        | true => have := hz.mpr q; omega
      rw [nf, Bool.not_false, Bool.true_and] at IL
      refine iteF ?_
      have win : ∀ j, j < W.length → 0 ≤ W.getD j 0 ∧ W.getD j 0 < ((qs.length : Nat) : Int) := fun j hj => by
        have hm2 : W.getD j 0 ∈ W := by
          rw [List.getD_eq_getElem?_getD, List.getElem?_eq_getElem hj]
          exact List.getElem_mem hj
        refine ⟨wpos _ hm2, ?_⟩
        unfold farW at nf
        rw [List.any_eq_false] at nf
        have := nf _ hm2
        have : ¬ ((qs.length : Nat) : Int) ≤ W.getD j 0 := fun z => this (decide_eq_true z)
        omega
      have wat : ∀ j, j < W.length → atI (W.map V.int) ((j : Nat) : Int) = some (.int (W.getD j 0)) := fun j hj => atI_nat (get0 (by omega) hj)
      have eB4 := s4 _ _ eB
      have eR4 := s4 _ _ eR3
      refine ⟨_, rfl, B, _, rfl, .inl (SqL.of eB4), 1, _, rfl, ⟨by decide, by decide, by omega, by rw [List.length_map]; omega⟩, fun D2 hD2 => ?_⟩
      rw [List.length_map]
      refine lc_range (lo := 1) (n := (((W.length : Nat) : Int) - 1).toNat) (FndG (gapAt qs W) (List.range (W.length - 1)) D2 H4) ⟨same_upd hD2, [], upd_same, by simp, Nat.le_refl _⟩ ?_ ?_
      · rintro j H5 hj F
        have hj1 : j + 1 < W.length := by omega
        have ej : (1 : Int) + (j : Nat) = ((j + 1 : Nat) : Int) := by omega
        rw [ej]
        obtain ⟨a0, a1⟩ := win (j + 1) hj1
        obtain ⟨b0, b1⟩ := win j (by omega)
        have s05 := sC.trans F.1
        obtain ⟨la, ea1, ea2, ea3⟩ := road_at lr h4 hr' s05 a0 a1
        obtain ⟨lb, eb1, eb2, eb3⟩ := road_at lr h4 hr' s05 b0 b1
        have eR5 := F.1 _ _ eR4
        have eB5 := F.1 _ _ eB4
        refine ⟨rfl, _, rfl, _, rfl, _, rfl, B, _, _, _, rfl, rfl, SqL.of eB5, wat _ hj1, pr, _, _, _, rfl, rfl, SqL.of eR5, ea1, la, _, 0, _, rfl, rfl, SqL.of ea2, atI_nat (j := 0) (get0 (by omega) (by omega)), ?_⟩
        refine ⟨_, rfl, _, rfl, _, rfl, _, _, rfl, rfl, B, _, _, _, rfl, rfl, SqL.of eB5, (by have := wat j (by omega); rw [show ((j + 1 : Nat) : Int) - 1 = ((j : Nat) : Int) by omega]; exact this), pr, _, _, _, rfl, rfl, SqL.of eR5, eb1, lb, _, 1, _, rfl, rfl, SqL.of eb2, atI_nat (j := 1) (get0 (by omega) (by omega)), ?_⟩
        have eg : (!decide (V.int ((qs.getD (W.getD (j + 1) 0).toNat []).getD 0 0) = V.int ((qs.getD (W.getD j 0).toNat []).getD 1 0))) = gapAt qs W j := by
          unfold gapAt
          congr 1
          by_cases z : (qs.getD (W.getD j 0).toNat []).getD 1 0 = (qs.getD (W.getD (j + 1) 0).toNat []).getD 0 0
          · rw [decide_eq_true z, z, decide_eq_true rfl]
          · rw [decide_eq_false z, decide_eq_false (fun e => z (V.int.inj e).symm)]
        refine ⟨rfl, _, rfl, ?_⟩
        rw [eg]
        have er : (List.range (W.length - 1))[j]? = some j := List.getElem?_range (by omega)
        cases q : gapAt qs W j with
        | true => exact iteT ⟨_, rfl, F.yes er q hD2 (by omega) _⟩
        | false => exact iteF (F.no er q)
      rintro H5 ⟨s5, zs2, eD2, hz2, lz2⟩
      have en : (((W.length : Nat) : Int) - 1).toNat = W.length - 1 := by omega
      rw [en, List.take_of_length_le (by rw [List.length_range]; exact Nat.le_refl _)] at hz2
      have gw : (List.range (W.length - 1)).any (gapAt qs W) = gapW qs W := rfl
      rw [gw] at hz2
      refine ⟨D2, _, rfl, .inl (SqL.of eD2), _, _, rfl, rfl, _, rfl, ?_⟩
      by_cases c6 : (0 : Int) < ((zs2.length : Nat) : Int)
      · rw [decide_eq_true c6]
        exact iteT (kL (by rw [IL, hz2.mp (by omega)]; rfl) _ (sC.trans s5))
      rw [decide_eq_false c6]
      have ng : gapW qs W = false := by
        cases q : gapW qs W with
        | false => rfl
        | true => have := hz2.mpr q; omega
      rw [ng, Bool.not_false] at IL
      refine iteF ⟨_, _, rfl, ((s2.trans s3).trans s4).trans s5, fun j hj m' e' => ?_⟩
      by_cases hji : j < i
      · exact ok j hji m' e'
      · have ej : j = i := by omega
        rw [ej, em] at e'
        rw [← Option.some.inj e']
        exact IL
    rintro σ' H2 ⟨o4, o5, rfl, s2, ok⟩
    rw [lw] at ok
    have all : ∀ m ∈ ms, isLetter (rdsQ qs) (letQ m) = true := fun m hm => by
      obtain ⟨j, hj, e⟩ := List.mem_iff_getElem.mp hm
      exact ok j hj m (by rw [List.getElem?_eq_getElem hj, e])
    have sA := s1.trans s2
    have eL2 := sA _ _ eL
    refine ⟨_, rfl, pl, _, rfl, .inl (SqL.of eL2), _, _, rfl, rfl, _, rfl, ?_⟩
    rw [lw]
    by_cases c7 : (60 : Int) < ((ms.length : Nat) : Int)
    · rw [decide_eq_true c7]
      have := k H2 sA
      rw [partD_many (by omega)] at this
      exact iteT this
    rw [decide_eq_false c7]
    have PD := partD_lets (qs := qs) (ms := ms) (by omega) all
    have ps : ∀ m ∈ ms, (m.length - 1) / 2 ≤ 8 ∧ ∀ j, 2 + 2 * j < m.length → 0 ≤ m.getD (1 + 2 * j) 0 ∧ m.getD (1 + 2 * j) 0 < ((qs.length : Nat) : Int) := fun m hm => let_facts (M.pos m hm) (M.odd m hm) (all m hm)
    have fl : ∀ L : List (List Int), (∀ m ∈ L, m ∈ ms) → (L.flatMap psM).length ≤ 8 * L.length := by
      intro L
      induction L with
      | nil => intro _; simp
      | cons m L ih =>
        intro h
        have h1 := ih fun x hx => h x (List.mem_cons_of_mem _ hx)
        have h2 := ps_len (M.odd m (h m (List.mem_cons_self ..))).2
        have h3 := (ps m (h m (List.mem_cons_self ..))).1
        rw [List.flatMap_cons, List.length_append, List.length_cons]
        omega
    refine iteF ⟨_, rfl, pl, rfl, ⟨_, SqL.of eL2⟩, ?_⟩
    have e2A := s2 _ _ e1
    refine for_list (K := K) (a := pl) (xs := ws) (fun i σ' H' => ∃ (o4 o5 o6 o7 : Option V), σ' = [some (.ref pr), some (.ref pl), some (.ref A), some (.bl ((ms.take i).any fun m => (prM (colQ 3 qs) m).any lateB)), o4, o5, o6, o7, none, none, none] ∧ Same H H' ∧ PrAt H' A ((ms.take i).flatMap psM))
      ⟨_, _, _, _, rfl, sA, [], e2A, rfl, fun j v e x => by simp at x⟩ (fun i σ' H' _ ⟨_, _, _, _, _, g, _⟩ => SqL.of (g _ _ eL)) ?_ ?_
    · rintro i v σ' H3 hx ⟨o4, o5, o6, o7, rfl, s3, ps3⟩
      have hi : i < ms.length := by rw [← lw]; exact (List.getElem?_eq_some_iff.mp hx).1
      have em := List.getElem?_eq_getElem hi
      obtain ⟨l, rfl, el⟩ := hw i v _ hx em
      have hm := List.getElem_mem hi
      have mo := M.odd _ hm
      have mp := M.pos _ hm
      have m10 := l10 _ hm
      obtain ⟨p8, pw⟩ := ps _ hm
      have f0 := fl (ms.take i) fun x hx => List.mem_of_mem_take hx
      rw [List.length_take] at f0
      generalize ms[i] = m at *
      rw [take_more em, List.any_append, List.flatMap_append, List.any_cons, List.any_nil, Bool.or_false, List.flatMap_cons, List.flatMap_nil, List.append_nil]
      generalize ((ms.take i).any fun m => (prM (colQ 3 qs) m).any lateB) = E0 at *
      generalize (ms.take i).flatMap psM = L0 at *
      refine ⟨_, rfl, l, _, 0, _, rfl, rfl, SqL.of (s3 _ _ el), atI_nat (j := 0) (get0 (by omega) (by omega)), ?_⟩
      refine ⟨_, rfl, l, _, rfl, .inl (SqL.of (s3 _ _ el)), ?_⟩
      rw [List.length_map]
      refine ⟨1, _, 2, _, rfl, rg_two mo.2 mo.1 m10, for_rangeC (lo := 1) (c := 2) (n := (m.length - 1) / 2) (fun j σ' H' => ∃ (o7 : Option V), σ' = [some (.ref pr), some (.ref pl), some (.ref A), some (.bl (E0 || ((prM (colQ 3 qs) m).take j).any lateB)), some (.ref l), o5, some (.int (lowM (colQ 3 qs) m j)), o7, none, none, none] ∧ Same H H' ∧ PrAt H' A (L0 ++ (psM m).take j))
        ⟨_, by rw [List.take_zero, List.any_nil, Bool.or_false]; rfl, s3, by rw [List.take_zero, List.append_nil]; exact ps3⟩ ?_ ?_⟩
      · rintro j σ' H4 hj ⟨o7, rfl, s4, vs4, eA3, lv3, hv3⟩
        have hj2 : 2 + 2 * j < m.length := by omega
        have el3 := s4 _ _ el
        have eR3 := s4 _ _ eR
        have at1 : atI (m.map V.int) (1 + (j : Nat) * 2) = some (.int (m.getD (1 + 2 * j) 0)) := by
          rw [show (1 : Int) + (j : Nat) * 2 = ((1 + 2 * j : Nat) : Int) by omega]
          exact atI_nat (get0 (by omega) (by omega))
        have at2 : atI (m.map V.int) (1 + (j : Nat) * 2 + 1) = some (.int (m.getD (2 + 2 * j) 0)) := by
          rw [show (1 : Int) + (j : Nat) * 2 + 1 = ((2 + 2 * j : Nat) : Int) by omega]
          exact atI_nat (get0 (by omega) (by omega))
        obtain ⟨w0, w1⟩ := pw j hj2
        obtain ⟨la, ea1, ea2, ea3⟩ := road_at lr h4 hr' s4 w0 w1
        have EJ : (E0 || ((prM (colQ 3 qs) m).take (j + 1)).any lateB) = ((E0 || ((prM (colQ 3 qs) m).take j).any lateB) || decide (m.getD (2 + 2 * j) 0 < lowM (colQ 3 qs) m j)) := by
          rw [take_more (pr_get mo.2 hj2), List.any_append, Bool.or_assoc]
          congr 2
          rw [List.any_cons, List.any_nil, Bool.or_false]
          rfl
        have LJ : L0 ++ (psM m).take (j + 1) = (L0 ++ (psM m).take j) ++ [((m.getD (1 + 2 * j) 0).toNat, m.getD (2 + 2 * j) 0)] := by
          rw [take_more (ps_get hj2), List.append_assoc]
        have lenL : (L0 ++ (psM m).take j).length < 100000 := by
          have := ps_len (m := m) mo.2
          rw [List.length_append, List.length_take]; omega
        have low : m.getD (2 + 2 * j) 0 + (qs.getD (m.getD (1 + 2 * j) 0).toNat []).getD 3 0 = lowM (colQ 3 qs) m (j + 1) := by
          show _ = m.getD (2 + 2 * j) 0 + (colQ 3 qs).getD (m.getD (1 + 2 * j) 0).toNat 0
          rw [col_get]
        rw [EJ, LJ, ← low]
        generalize (E0 || ((prM (colQ 3 qs) m).take j).any lateB) = EE at *
        generalize L0 ++ (psM m).take j = LL at *
        have nat : ((m.getD (1 + 2 * j) 0).toNat : Int) = m.getD (1 + 2 * j) 0 := Int.toNat_of_nonneg w0
        cases EE with
        | true =>
          refine ⟨_, rfl, true, rfl, iteT ?_⟩
          refine ⟨_, rfl, _, rfl, _, _, rfl, rfl, l, _, _, _, rfl, rfl, SqL.of el3, at2, _, rfl, _, rfl, _, rfl, l, _, _, _, rfl, rfl, SqL.of el3, at1, pr, _, _, _, rfl, rfl, SqL.of eR3, ea1, la, _, 3, _, rfl, rfl, SqL.of ea2, atI_nat (j := 3) (get0 (by omega) (by omega)), _, _, rfl, rfl, ?_⟩
          refine ⟨_, rfl, .inl ⟨rfl, _, SqL.of eA3⟩, _, rfl, _, rfl, l, _, _, _, rfl, rfl, SqL.of el3, at1, _, rfl, _, rfl, _, _, rfl, rfl, l, _, _, _, rfl, rfl, SqL.of el3, at2, by show 2 ≤ sizeLine; decide, fun T hT => ?_⟩
          have nA := ne_of_none eA3 hT
          have sn : PrAt (upd (upd H4 T (.tup [.int ((((m.getD (1 + 2 * j) 0).toNat : Nat)) : Int), .int (m.getD (2 + 2 * j) 0)])) A (.lst (vs4 ++ [.ref T]))) A (LL ++ [((m.getD (1 + 2 * j) 0).toNat, m.getD (2 + 2 * j) 0)]) := PrAt.snoc (e := ((m.getD (1 + 2 * j) 0).toNat, m.getD (2 + 2 * j) 0)) eA3 lv3 hv3 hT
          rw [nat] at sn
          refine ⟨A, _, _, rfl, rfl, (upd_ne nA).trans eA3, line_lt (by omega), ?_⟩
          exact ⟨_, rfl, same_putX (s4.trans (same_upd hT)) hA, sn⟩
        | false =>
          refine ⟨_, rfl, false, rfl, iteF ?_⟩
          refine ⟨_, rfl, _, rfl, _, _, rfl, rfl, l, _, _, _, rfl, rfl, SqL.of el3, at2, _, rfl, _, _, rfl, rfl, ?_⟩
          refine ⟨_, rfl, _, rfl, _, _, rfl, rfl, l, _, _, _, rfl, rfl, SqL.of el3, at2, _, rfl, _, rfl, _, rfl, l, _, _, _, rfl, rfl, SqL.of el3, at1, pr, _, _, _, rfl, rfl, SqL.of eR3, ea1, la, _, 3, _, rfl, rfl, SqL.of ea2, atI_nat (j := 3) (get0 (by omega) (by omega)), _, _, rfl, rfl, ?_⟩
          refine ⟨_, rfl, .inl ⟨rfl, _, SqL.of eA3⟩, _, rfl, _, rfl, l, _, _, _, rfl, rfl, SqL.of el3, at1, _, rfl, _, rfl, _, _, rfl, rfl, l, _, _, _, rfl, rfl, SqL.of el3, at2, by show 2 ≤ sizeLine; decide, fun T hT => ?_⟩
          have nA := ne_of_none eA3 hT
          have sn : PrAt (upd (upd H4 T (.tup [.int ((((m.getD (1 + 2 * j) 0).toNat : Nat)) : Int), .int (m.getD (2 + 2 * j) 0)])) A (.lst (vs4 ++ [.ref T]))) A (LL ++ [((m.getD (1 + 2 * j) 0).toNat, m.getD (2 + 2 * j) 0)]) := PrAt.snoc (e := ((m.getD (1 + 2 * j) 0).toNat, m.getD (2 + 2 * j) 0)) eA3 lv3 hv3 hT
          rw [nat] at sn
          refine ⟨A, _, _, rfl, rfl, (upd_ne nA).trans eA3, line_lt (by omega), ?_⟩
          exact ⟨_, rfl, same_putX (s4.trans (same_upd hT)) hA, sn⟩
      rintro σ' H4 ⟨o7, rfl, s4, q4⟩
      rw [List.take_of_length_le (pr_len mo.2), List.take_of_length_le (by rw [ps_len mo.2]; exact Nat.le_refl _)] at *
      exact ⟨_, _, _, _, rfl, s4, q4⟩
    rintro σ' H3 ⟨o4, o5, o6, o7, rfl, s3, q3⟩
    rw [lw, List.take_length] at q3 ⊢
    have f0 := fl ms fun x hx => hx
    rw [early_M, fullB, es_M] at PD
    have c7 : ms.length ≤ 60 := by omega
    have psR : ∀ e ∈ ms.flatMap psM, e.1 < qs.length := by
      intro e he
      obtain ⟨m, hm, h1⟩ := List.mem_flatMap.mp he
      obtain ⟨j, hj, e1⟩ := List.mem_iff_getElem.mp h1
      have hl := ps_len (M.odd m hm).2
      have ho := M.odd m hm
      obtain ⟨w0, w1⟩ := (ps m hm).2 j (by omega)
      have := ps_get (m := m) (j := j) (by omega)
      rw [List.getElem?_eq_getElem hj, e1] at this
      rw [Option.some.inj this]
      show (m.getD (1 + 2 * j) 0).toNat < _
      omega
    generalize (ms.any fun m => (prM (colQ 3 qs) m).any lateB) = E0 at *
    generalize ms.flatMap psM = L at *
    have kk : ∀ s, partD qs ms = s → ∀ H', Same H H' → Q (.str s) H' := fun s e H' z => e ▸ k H' z
    refine ⟨_, rfl, _, rfl, ?_⟩
    cases E0 with
    | true => exact iteT (kk _ (by rw [PD, if_pos rfl]) _ s3)
    | false =>
    rw [if_neg (by decide)] at PD
    obtain ⟨vs, eA3, lv3, hv3⟩ := q3
    have px : PsAt H3 vs L := ⟨lv3, fun j e he => by
      have hj : j < vs.length := by rw [lv3]; exact (List.getElem?_eq_some_iff.mp he).1
      have e1 := List.getElem?_eq_getElem hj
      obtain ⟨t, e2, e3⟩ := hv3 j _ e e1 he
      exact ⟨t, by rw [e1, e2], e3⟩⟩
    refine iteF ⟨_, rfl, A, rfl, ⟨_, SqL.of eA3⟩, fun D hD => ?_⟩
    refine lc_list (K := K) (a := A) (xs := vs) (FndG (fun e : Nat × Int => decide ((colQ 2 qs).getD e.1 0 < (L.count e : Int))) L D H3) ⟨same_upd hD, [], upd_same, by simp, Nat.le_refl _⟩ (fun i H' _ z => SqL.of (z.1 _ _ eA3)) ?_ ?_
    · rintro j v H4 hx F
      have hj : j < L.length := by rw [← lv3]; exact (List.getElem?_eq_some_iff.mp hx).1
      obtain ⟨e, ee⟩ : ∃ e, L[j]? = some e := ⟨_, List.getElem?_eq_getElem hj⟩
      obtain ⟨c, c1, c2⟩ := px.2 j e ee
      rw [hx] at c1
      cases c1
      have px5 := px.same F.1
      have hrd := psR e (List.mem_of_getElem? ee)
      obtain ⟨la, ea1, ea2, ea3⟩ := road_at lr h4 hr' (s3.trans F.1) (x := ((e.1 : Nat) : Int)) (by omega) (by omega)
      rw [Int.toNat_natCast] at ea2 ea3
      have eA4 := F.1 _ _ eA3
      refine ⟨rfl, _, rfl, .inl ⟨rfl, _, SqL.of eA4⟩, _, rfl, A, .ref c, psP e, L.map psP, rfl, rfl, .lst (SqL.of eA4) (dpl_ps px5), dp_row (p := [((e.1 : Nat) : Int), e.2]) (F.1 _ _ c2), sh_ps L, shaped_row _, ?_⟩
      rw [count_ps]
      refine ⟨_, rfl, _, rfl, c, _, 0, _, rfl, rfl, SqT.of (F.1 _ _ c2), atI_nat (j := 0) rfl, pr, _, _, _, rfl, rfl, SqL.of ((s3.trans F.1) _ _ eR), ea1, la, _, 2, _, rfl, rfl, SqL.of ea2, atI_nat (j := 2) (get0 (by omega) (by omega)), _, _, rfl, rfl, _, rfl, ?_⟩
      rw [← col_get]
      by_cases g : (colQ 2 qs).getD e.1 0 < (L.count e : Int)
      · rw [decide_eq_true g]
        exact iteT ⟨_, rfl, F.yes ee (decide_eq_true g) hD (by omega) _⟩
      · rw [decide_eq_false g]
        exact iteF (F.no ee (decide_eq_false g))
    rintro H4 ⟨s4, zs, eD, hz, lz⟩
    rw [lv3, List.take_length] at hz
    refine ⟨D, _, rfl, .inl (SqL.of eD), _, _, rfl, rfl, _, rfl, ?_⟩
    by_cases c8 : (0 : Int) < ((zs.length : Nat) : Int)
    · rw [decide_eq_true c8]
      exact iteT (kk _ (by rw [PD, if_pos (hz.mp (by omega))]) _ (s3.trans s4))
    · rw [decide_eq_false c8]
      exact iteF (kk _ (by rw [PD, if_neg (fun z => by have := hz.mpr z; omega)]) _ (s3.trans s4))
end
end Hc


set_option Elab.async false
set_option linter.all false
set_option pp.maxSteps 900
set_option maxRecDepth 100000
set_option maxHeartbeats 4000000
set_option autoImplicit false
namespace Hc
open PySem L2
inductive Res where
  | text (k : Int) | web (p : Str) | day (p : Str) | told (n : Int) (qs ms : List (List Int))
def ResAt (H : Hp) (v : V) : Res → Prop
  | .text k => ∃ q, v = .ref q ∧ H q = some (.tup [.str "text", .int k])
  | .web p => ∃ q, v = .ref q ∧ H q = some (.tup [.str "web", .str p])
  | .day p => ∃ q, v = .ref q ∧ H q = some (.tup [.str "day", .str p])
  | .told n qs ms => ∃ q L R S, v = .ref q ∧ H q = some (.tup [.str "told", .ref L]) ∧ H L = some (.lst [.int n, .ref R, .ref S]) ∧ ListsAt H R qs ∧ ListsAt H S ms
theorem ResAt.same {H H' : Hp} {v : V} {r : Res} (x : ResAt H v r) (s : Same H H') : ResAt H' v r := by
  cases r with
  | text k => obtain ⟨q, a, b⟩ := x; exact ⟨q, a, s _ _ b⟩
  | web k => obtain ⟨q, a, b⟩ := x; exact ⟨q, a, s _ _ b⟩
  | day k => obtain ⟨q, a, b⟩ := x; exact ⟨q, a, s _ _ b⟩
  | told n qs ms => obtain ⟨q, L, R, S, a, b, c, d, e⟩ := x; exact ⟨q, L, R, S, a, s _ _ b, s _ _ c, d.same s, e.same s⟩
def W3 : List Str := ["web", "road", "letter"]
abbrev roadsN (x : Str) : List (List Int) := numsOf "road" (rowsX x)
abbrev lettersN (x : Str) : List (List Int) := numsOf "letter" (rowsX x)
inductive ResIs (x : Str) : Res → Prop
  | text {k : Int} : BadAt W3 x k → ResIs x (.text k)
  | web {p : Str} : okAll W3 x → endOk x → dueQ (headN x) (roadsN x) = some p → ResIs x (.web p)
  | day {p : Str} : okAll W3 x → endOk x → dueQ (headN x) (roadsN x) = none → DueD (rdsQ (roadsN x)) (colQ 2 (roadsN x)) (colQ 3 (roadsN x)) (.tup ((lettersN x).map letQ)) (.tup ((lettersN x).map hrQ)) p → ResIs x (.day p)
  | told : okAll W3 x → endOk x → dueQ (headN x) (roadsN x) = none → DayOk (rdsQ (roadsN x)) (colQ 2 (roadsN x)) (colQ 3 (roadsN x)) ((lettersN x).map lwOf) ((lettersN x).map hrOf) → ResIs x (.told (headN x) (roadsN x) (lettersN x))
theorem nums_pos {w : Str} {x : Str} : ∀ q ∈ numsOf w (rowsX x), ∀ k, 0 ≤ q.getD k 0 := by
  intro q hq k
  have hm := nums_mem hq
  unfold rowsX at hm
  obtain ⟨l, _, e⟩ := List.mem_map.mp hm
  unfold rowOf at e
  injection e with _ e
  rw [← e, List.getD_eq_getElem?_getD, List.getElem?_map]
  cases (restOf l)[k]? with
  | none => exact Int.le_refl _
  | some y => exact numOf_pos y
theorem ms_ok {ws : List Str} {x : Str} (h : okAll ws x) : MsOk (lettersN x) := ⟨rows_letter h, nums_pos⟩
theorem due_not {x : Str} (h : okAll W3 x) {p : Str} (d : DayOk (rdsQ (roadsN x)) (colQ 2 (roadsN x)) (colQ 3 (roadsN x)) ((lettersN x).map lwOf) ((lettersN x).map hrOf)) : ¬ DueD (rdsQ (roadsN x)) (colQ 2 (roadsN x)) (colQ 3 (roadsN x)) (.tup ((lettersN x).map letQ)) (.tup ((lettersN x).map hrQ)) p := by
  rw [(ms_ok h).lts, MsOk.rows]
  exact d.not
theorem not_bad {ws : List Str} {x : Str} (h : okAll ws x) (e : endOk x) {k : Int} : ¬ BadAt ws x k := by
  intro b
  cases b with
  | line hi _ hb => rw [h _ hi] at hb; cases hb
  | fin _ hn => exact hn e
theorem bad_one {ws : List Str} {x : Str} {k k' : Int} (a : BadAt ws x k) (b : BadAt ws x k') : k = k' := by
  cases a with
  | @line i hi h1 h2 =>
    cases b with
    | @line j hj g1 g2 =>
      have : i = j := by
        rcases Nat.lt_trichotomy i j with h | h | h
        · have := g1 i h; rw [h2] at this; cases this
        · exact h
        · have := h1 j h; rw [g2] at this; cases this
      rw [this]
    | fin g1 _ => have := g1 i hi; rw [h2] at this; cases this
  | fin h1 h2 =>
    cases b with
    | @line j hj g1 g2 => have := h1 j hj; rw [g2] at this; cases this
    | fin g1 g2 => rfl
theorem ResIs.one {x : Str} {r r' : Res} (a : ResIs x r) (b : ResIs x r') : r = r' := by
  cases a with
  | text h =>
    cases b with
    | text g => rw [bad_one h g]
    | web g1 g2 _ => exact absurd h (not_bad g1 g2)
    | day g1 g2 _ _ => exact absurd h (not_bad g1 g2)
    | told g1 g2 _ _ => exact absurd h (not_bad g1 g2)
  | web h1 h2 h3 =>
    cases b with
    | text g => exact absurd g (not_bad h1 h2)
    | web _ _ g3 => rw [h3] at g3; rw [Option.some.inj g3]
    | day _ _ g3 _ => rw [h3] at g3; cases g3
    | told _ _ g3 _ => rw [h3] at g3; cases g3
  | day h1 h2 h3 h4 =>
    cases b with
    | text g => exact absurd g (not_bad h1 h2)
    | web _ _ g3 => rw [h3] at g3; cases g3
    | day _ _ _ g4 => rw [due_one h4 g4]
    | told _ _ _ g4 => exact absurd h4 (due_not h1 g4)
  | told h1 h2 h3 h4 =>
    cases b with
    | text g => exact absurd g (not_bad h1 h2)
    | web _ _ g3 => rw [h3] at g3; cases g3
    | day _ _ _ g4 => exact absurd g4 (due_not h1 h4)
    | told _ _ _ _ => rfl
theorem rows_one {ws : List Str} {x : Str} (hok : okAll ws x) (he : endOk x) : 1 ≤ (numsOf "road" (rowsX x)).length := by
  have h2 : 1 < (bodyOf x).length := by
    match q : (bodyOf x).length with
    | 0 =>
      have := he.2
      rw [q] at this
      exact absurd (show ("" : Str) ∈ ([("road" : Str), "letter"] : List Str) from this) (by decide +kernel)
    | 1 =>
      have h1 := he.2
      rw [q] at h1
      have h1 : wordOf ((bodyOf x).getD 0 "") ∈ ([("road" : Str), "letter"] : List Str) := h1
      have h0 := hok 0 (by omega)
      unfold okAt okLine at h0
      rw [Bool.and_eq_true, Bool.and_eq_true] at h0
      have h3 : wordOf ((bodyOf x).getD 0 "") ∈ behindS "" := in_str.mp h0.2.1
      rw [beh0] at h3
      rw [List.mem_singleton.mp h3] at h1
      exact absurd h1 (by decide +kernel)
    | n + 2 => omega
  have h0 := hok 0 (by omega)
  have h1 := hok 1 h2
  unfold okAt okLine at h0 h1
  rw [Bool.and_eq_true, Bool.and_eq_true] at h0 h1
  have w0 : wordOf ((bodyOf x).getD 0 "") ∈ behindS "" := in_str.mp h0.2.1
  rw [beh0] at w0
  have w1 : wordOf ((bodyOf x).getD 1 "") ∈ behindS (wordOf ((bodyOf x).getD 0 "")) := in_str.mp h1.2.1
  rw [List.mem_singleton.mp w0, beh1] at w1
  have w1 := List.mem_singleton.mp w1
  have hm : rowOf ((bodyOf x).getD 1 "") ∈ rowsX x := List.mem_map.mpr ⟨_, List.mem_of_getElem? (body_get h2), rfl⟩
  have hf : ofW "road" (rowOf ((bodyOf x).getD 1 "")) = true := str_key w1
  have : (rowOf ((bodyOf x).getD 1 "")).2 ∈ numsOf "road" (rowsX x) := by
    unfold numsOf
    exact List.mem_map.mpr ⟨_, List.mem_filter.mpr ⟨hm, hf⟩, rfl⟩
  exact List.length_pos_iff.mpr (List.ne_nil_of_mem this)
theorem rows_short2 {w : Str} {x : Str} (h : x.length ≤ 9000) : ∀ q ∈ numsOf w (rowsX x), q.length ≤ 10000 := by
  intro q hq
  have hm := nums_mem hq
  unfold rowsX at hm
  obtain ⟨l, hl, e⟩ := List.mem_map.mp hm
  unfold rowOf at e
  injection e with e1 e2
  rw [← e2, List.length_map]
  have h1 := PyProof.Rows.split_le l " "
  rw [split_wr] at h1
  simp only [List.length_cons] at h1
  have h2 : l.length ≤ x.length := line_len (List.dropLast_subset _ hl)
  omega
section
variable {P : Program} {w : World} {K : PySem.W.Frag} {mg : Str → Option Value} {base : Heap}
def spDue : Sp := fun vs H Q _ => ∃ (x : Str), vs = [.str x] ∧ x.length ≤ 9000 ∧ ∀ v r H', Same H H' → ResAt H' v r → ResIs x r → Q v H'
theorem ok__law_due (T : Tx K mg) : FnOk P w K mg base CX0 4 T._law_due.f T._law_due.fd ["_law_text"] spDue := by
  refine T._law_due.F.ok sc_law_due (fun vs H Q E h => ?_) (fun cdv A outer s H vs Q E hr h => ?_)
  · obtain ⟨x, rfl, _⟩ := h
    rfl
  · obtain ⟨x, rfl, hx, k⟩ := h
    refine ⟨_, (pss_cons (ps_asg (pe_call (ok__law_wrong T) (hr.mono (by decide)) rfl T._law_wrong.g T._law_wrong.F.kp T._law_wrong.b .nil pass0 (pa_cons (pv 0) (pa_cons pe_bl pa_nil))) (pg_tup (by rfl) (pgs_cons (pg_name (i := 1) sc_law_due.nd rfl (Or.inl rfl)) (pgs_cons (pg_name (i := 2) sc_law_due.nd rfl (Or.inl rfl)) pgs_nil))))
      (pss_cons (ps_if (pt_cmpR op_gt (pv 1) pe_int (nomark _))
      (pss_one (ps_ret (pe_tup (pa_cons pe_str (pa_cons (pv 1) pa_nil)))))
      pss_nil)
      (pss_cons (ps_setLc (i := 3) (own := [("_law_row", 7)]) (g := (gName 7))  (te := (tOp (rIxT K) (tVar 7) (tC (.int 1)))) (tt := (tTest (tOp rEq (tOp (rIxT K) (tVar 7) (tC (.int 0))) (tC (.str "road"))))) rfl sc_law_due.nd rfl rfl (sw_true rfl rfl rfl (by decide +kernel)) (pi_list (pv 2)) (blkOk_by (own := [("_law_row", 7)]) (N := ["_law_text", "_law_line_here", "_law_rows", "_law_roads", "_law_houses", "_law_part", "_law_letters_here", "_law_row"]) (sc := defScope s_law_due) (by decide +kernel)) (fun _ _ _ _ _ => (pg_name (i := 7) sc_law_due.nd rfl (Or.inl rfl))) (fun _ _ _ _ _ => (pts_one (by exact (pt_cmpR op_eq (pe_ix ix_tup (pv 7) pe_int (fun _ _ => rfl)) pe_str (nomark _))))) (fun _ _ _ _ _ => (by exact (pe_ix ix_tup (pv 7) pe_int (fun _ _ => rfl)))))
      (pss_cons (ps_set (i := 4) sc_law_due.nd rfl (Or.inl rfl) (pe_ix ix_list (pe_ix ix_tup (pe_ix ix_list (pv 2) pe_int (fun _ _ => rfl)) pe_int (fun _ _ => rfl)) pe_int (fun _ _ => rfl)))
      (pss_cons (ps_set (i := 5) sc_law_due.nd rfl (Or.inl rfl) (pe_call (ok__law_web_part T) (hr.mono (by decide)) rfl T._law_web_part.g T._law_web_part.F.kp T._law_web_part.b .nil pass0 (pa_cons (pv 4) (pa_cons (pv 3) pa_nil))))
      (pss_cons (ps_if (pt_cmpR op_ne (pv 5) pe_str (nomark _))
      (pss_one (ps_ret (pe_tup (pa_cons pe_str (pa_cons (pv 5) pa_nil)))))
      pss_nil)
      (pss_cons (ps_setLc (i := 6) (own := [("_law_row", 7)]) (g := (gName 7))  (te := (tOp (rIxT K) (tVar 7) (tC (.int 1)))) (tt := (tTest (tOp rEq (tOp (rIxT K) (tVar 7) (tC (.int 0))) (tC (.str "letter"))))) rfl sc_law_due.nd rfl rfl (sw_true rfl rfl rfl (by decide +kernel)) (pi_list (pv 2)) (blkOk_by (own := [("_law_row", 7)]) (N := ["_law_text", "_law_line_here", "_law_rows", "_law_roads", "_law_houses", "_law_part", "_law_letters_here", "_law_row"]) (sc := defScope s_law_due) (by decide +kernel)) (fun _ _ _ _ _ => (pg_name (i := 7) sc_law_due.nd rfl (Or.inl rfl))) (fun _ _ _ _ _ => (pts_one (by exact (pt_cmpR op_eq (pe_ix ix_tup (pv 7) pe_int (fun _ _ => rfl)) pe_str (nomark _))))) (fun _ _ _ _ _ => (by exact (pe_ix ix_tup (pv 7) pe_int (fun _ _ => rfl)))))
      (pss_cons (ps_set (i := 5) sc_law_due.nd rfl (Or.inl rfl) (pe_call (ok__law_day_part T) (hr.mono (by decide)) rfl T._law_day_part.g T._law_day_part.F.kp T._law_day_part.b .nil pass0 (pa_cons (pv 3) (pa_cons (pv 6) pa_nil))))
      (pss_cons (ps_if (pt_cmpR op_ne (pv 5) pe_str (nomark _))
      (pss_one (ps_ret (pe_tup (pa_cons pe_str (pa_cons (pv 5) pa_nil)))))
      pss_nil)
      (pss_one (ps_ret (pe_tup (pa_cons pe_str (pa_cons (pe_lst (pa_cons (pv 4) (pa_cons (pv 3) (pa_cons (pv 6) pa_nil)))) pa_nil)))))))))))))), ?_⟩
    refine ⟨_, rfl, x, true, rfl, hx, fun q R kk H1 s1 eq LR WI => ⟨q, _, rfl, SqT.of eq, rfl, _, _, rfl, _, _, rfl, rfl, _, rfl, _, _, rfl, rfl, _, rfl, ?_⟩⟩
    cases WI with
    | bad hk hb =>
      rw [decide_eq_true hk]
      refine iteT ⟨_, rfl, by show 2 ≤ sizeLine; decide, fun t ht => k _ (.text kk) _ (s1.trans (same_upd ht)) ⟨t, rfl, upd_same⟩ (.text hb)⟩
    | ok hok he =>
      refine iteF ?_
      have RR := LR.rows hok
      have hl := rows_len hx
      have h4 := rows_road hok
      have e0 := rows_head hok he
      have pd := part_due (n := headN x) (rows_one hok he) (fun q hq => ⟨nums_pos q hq 0, nums_pos q hq 1⟩)
      have MO := ms_ok hok
      have PDm := part_day (qs := roadsN x) MO
      have l10 := rows_short2 (w := "letter") hx
      have kw := fun p e => fun v H' s A => k v (.web p) H' s A (.web hok he e)
      have ky := fun p e d => fun v H' s A => k v (.day p) H' s A (.day hok he e d)
      have kt := fun e d => fun v H' s A => k v _ H' s A (.told hok he e d)
      obtain ⟨vs, eP, lv, hv⟩ := RR
      refine ⟨_, rfl, R, rfl, ⟨_, SqL.of eP⟩, fun D hD => ?_⟩
      refine lc_list (K := K) (a := R) (xs := vs) (fun i H' => Same H1 H' ∧ ∃ ws : List V, H' D = some (.lst ws) ∧ ws.length = (numsOf "road" ((rowsX x).take i)).length ∧ ∀ (j : Nat) (v : V) (q : List Int), ws[j]? = some v → (numsOf "road" ((rowsX x).take i))[j]? = some q → ∃ l, v = .ref l ∧ H1 l = some (.lst (q.map V.int)))
        ⟨same_upd hD, [], upd_same, rfl, fun j v q e => by simp at e⟩ (fun i H' _ ⟨z, _⟩ => SqL.of (z _ _ eP)) ?_ ?_
      · rintro i v H2 hxv ⟨s2, ws, eD, lw, hw⟩
        have hi : i < vs.length := (List.getElem?_eq_some_iff.mp hxv).1
        have er : (rowsX x)[i]? = some (rowsX x)[i] := List.getElem?_eq_getElem (by omega)
        obtain ⟨qr, l, rfl, e1, e2⟩ := hv i v _ hxv er
        refine ⟨rfl, _, rfl, qr, _, 0, _, rfl, rfl, SqT.of (s2 _ _ e1), atI_nat (j := 0) rfl, rfl, _, rfl, ?_⟩
        rw [take_more er, nums_app]
        cases hc : ofW "road" (rowsX x)[i] with
        | false =>
          have hc' : decide (V.str (rowsX x)[i].1 = V.str "road") = false := hc
          rw [hc', if_neg (by decide), if_neg (by decide), List.append_nil]
          exact ⟨s2, ws, eD, lw, hw⟩
        | true =>
          have hc' : decide (V.str (rowsX x)[i].1 = V.str "road") = true := hc
          rw [hc', if_pos rfl, if_pos rfl]
          refine ⟨_, rfl, qr, _, 1, _, rfl, rfl, SqT.of (s2 _ _ e1), atI_nat (j := 1) rfl, ws, eD, ?_, same_putX s2 hD, _, upd_same, by rw [List.length_append, List.length_append, lw]; rfl, fun j v q' e3 e4 => ?_⟩
          · have := nums_len "road" ((rowsX x).take i)
            rw [List.length_take] at this
            exact line_lt (by omega)
          · by_cases hj : j < ws.length
            · rw [List.getElem?_append_left hj] at e3
              rw [List.getElem?_append_left (by omega)] at e4
              exact hw j v q' e3 e4
            · rw [List.getElem?_append_right (by omega)] at e3 e4
              rw [lw] at e3
              cases z : j - (numsOf "road" ((rowsX x).take i)).length with
              | succ m => rw [z] at e3; simp at e3
              | zero =>
                rw [z] at e3 e4
                obtain rfl : v = .ref l := by simpa using e3.symm
                obtain rfl : q' = (rowsX x)[i].2 := by simpa using e4.symm
                exact ⟨l, rfl, e2⟩
      · rintro H2 ⟨s2, ws, eD, lw, hw⟩
        rw [lv, List.take_length] at lw hw
        have LA : ListsAt H2 D (numsOf "road" (rowsX x)) := ⟨ws, eD, lw, fun i v q a b => by obtain ⟨l, c, d⟩ := hw i v q a b; exact ⟨l, c, s2 _ _ d⟩⟩
        have hn := nums_len "road" (rowsX x)
        obtain ⟨v0, ev0⟩ : ∃ v, vs[0]? = some v := by
          have := (List.getElem?_eq_some_iff.mp e0).1
          exact ⟨vs[0], List.getElem?_eq_getElem (by omega)⟩
        obtain ⟨q0, l0, rfl, f1, f2⟩ := hv 0 v0 _ ev0 e0
        clear hw lw hD
        have eP2 := s2 _ _ eP
        refine ⟨_, rfl, R, _, 0, _, rfl, rfl, SqL.of eP2, atI_nat (j := 0) ev0, q0, _, 1, _, rfl, rfl, SqT.of (s2 _ _ f1), atI_nat (j := 1) rfl, l0, _, 0, _, rfl, rfl, SqL.of (s2 _ _ f2), atI_nat (j := 0) rfl, ?_⟩
        refine ⟨_, rfl, _, rfl, headN x, D, _, rfl, LA, by omega, h4, fun H3 s3 => ⟨_, rfl, rfl, _, rfl, ?_⟩⟩
        have LA3 := LA.same s3
        have s13 := (s1.trans s2).trans s3
        cases hp : decide (V.str (partL (headN x) (numsOf "road" (rowsX x))) = V.str "let") with
        | false =>
          have ne : ¬ partL (headN x) (numsOf "road" (rowsX x)) = "let" := fun z => by rw [z, decide_eq_true rfl] at hp; cases hp
          rw [if_neg ne] at pd
          exact iteT ⟨_, rfl, by show 2 ≤ sizeLine; decide, fun t ht => kw _ pd _ _ (s13.trans (same_upd ht)) ⟨t, rfl, upd_same⟩⟩
        | true =>
          rw [if_pos (V.str.inj (of_decide_eq_true hp))] at pd
          have pd0 := pd
          refine iteF ?_
          have eP3 := s3 _ _ eP2
          have P12 := due_parts pd
          have hv3 : ∀ (i : Nat) (v : V) (r : Str × List Int), vs[i]? = some v → (rowsX x)[i]? = some r → ∃ q l, v = .ref q ∧ H3 q = some (.tup [.str r.1, .ref l]) ∧ H3 l = some (.lst (r.2.map V.int)) := fun i v r a b => by
            obtain ⟨q, l, c, d, e⟩ := hv i v r a b
            exact ⟨q, l, c, s3 _ _ (s2 _ _ d), s3 _ _ (s2 _ _ e)⟩
          refine ⟨_, rfl, R, rfl, ⟨_, SqL.of eP3⟩, fun D4 hD4 => ?_⟩
          refine lc_list (K := K) (a := R) (xs := vs) (fun i H' => Same H3 H' ∧ ∃ ws : List V, H' D4 = some (.lst ws) ∧ ws.length = (numsOf "letter" ((rowsX x).take i)).length ∧ ∀ (j : Nat) (v : V) (q : List Int), ws[j]? = some v → (numsOf "letter" ((rowsX x).take i))[j]? = some q → ∃ l, v = .ref l ∧ H3 l = some (.lst (q.map V.int)))
            ⟨same_upd hD4, [], upd_same, rfl, fun j v q e => by simp at e⟩ (fun i H' _ ⟨z, _⟩ => SqL.of (z _ _ eP3)) ?_ ?_
          · rintro i v H4 hxv ⟨s2, ws, eD, lw, hw⟩
            have hi : i < vs.length := (List.getElem?_eq_some_iff.mp hxv).1
            have er : (rowsX x)[i]? = some (rowsX x)[i] := List.getElem?_eq_getElem (by omega)
            obtain ⟨qr, l, rfl, e1, e2⟩ := hv3 i v _ hxv er
            refine ⟨rfl, _, rfl, qr, _, 0, _, rfl, rfl, SqT.of (s2 _ _ e1), atI_nat (j := 0) rfl, rfl, _, rfl, ?_⟩
            rw [take_more er, nums_app]
            cases hc : ofW "letter" (rowsX x)[i] with
            | false =>
              have hc' : decide (V.str (rowsX x)[i].1 = V.str "letter") = false := hc
              rw [hc', if_neg (by decide), if_neg (by decide), List.append_nil]
              exact ⟨s2, ws, eD, lw, hw⟩
            | true =>
              have hc' : decide (V.str (rowsX x)[i].1 = V.str "letter") = true := hc
              rw [hc', if_pos rfl, if_pos rfl]
              refine ⟨_, rfl, qr, _, 1, _, rfl, rfl, SqT.of (s2 _ _ e1), atI_nat (j := 1) rfl, ws, eD, ?_, same_putX s2 hD4, _, upd_same, by rw [List.length_append, List.length_append, lw]; rfl, fun j v q' e3 e4 => ?_⟩
              · have := nums_len "letter" ((rowsX x).take i)
                rw [List.length_take] at this
                exact line_lt (by omega)
              · by_cases hj : j < ws.length
                · rw [List.getElem?_append_left hj] at e3
                  rw [List.getElem?_append_left (by omega)] at e4
                  exact hw j v q' e3 e4
                · rw [List.getElem?_append_right (by omega)] at e3 e4
                  rw [lw] at e3
                  cases z : j - (numsOf "letter" ((rowsX x).take i)).length with
                  | succ m => rw [z] at e3; simp at e3
                  | zero =>
                    rw [z] at e3 e4
                    obtain rfl : v = .ref l := by simpa using e3.symm
                    obtain rfl : q' = (rowsX x)[i].2 := by simpa using e4.symm
                    exact ⟨l, rfl, e2⟩
          rintro H4 ⟨s4, zs, eD4, lz, hz⟩
          rw [lv, List.take_length] at lz hz
          have LB : ListsAt H4 D4 (lettersN x) := ⟨zs, eD4, lz, fun i v q a b => by obtain ⟨l, c, d⟩ := hz i v q a b; exact ⟨l, c, s4 _ _ d⟩⟩
          have LA4 := LA3.same s4
          have hm : (lettersN x).length ≤ (rowsX x).length := nums_len "letter" (rowsX x)
          refine ⟨_, rfl, _, rfl, D, D4, roadsN x, lettersN x, rfl, LA4, LB, ?_, h4, MO, by omega, l10, fun H5 s5 => ⟨_, rfl, rfl, _, rfl, ?_⟩⟩
          · have h1 := P12.l2
            have e : (rdsQ (numsOf "road" (rowsX x))).length = (numsOf "road" (rowsX x)).length := List.length_map _
            show (numsOf "road" (rowsX x)).length ≤ 24
            omega
          have s15 := (s13.trans s4).trans s5
          cases PDm with
          | ok pe dk =>
            rw [pe]
            have z : (!decide (V.str ("let" : Str) = V.str "let")) = false := by rw [decide_eq_true rfl]; rfl
            rw [z]
            refine iteF ⟨_, rfl, _, rfl, _, rfl, by show 3 ≤ sizeLine; decide, fun L hL => ⟨by show 2 ≤ sizeLine; decide, fun t ht => ?_⟩⟩
            have s6 := same_upd (o := .lst [V.int (headN x), .ref D, .ref D4]) hL
            have s7 := same_upd (o := .tup [V.str "told", .ref L]) ht
            exact kt pd dk _ _ ((s15.trans s6).trans s7) ⟨t, L, D, D4, rfl, upd_same, s7 _ _ upd_same, ((LA4.same s5).same s6).same s7, ((LB.same s5).same s6).same s7⟩
          | bad pm dd =>
            have ne : (!decide (V.str (partD (roadsN x) (lettersN x)) = V.str "let")) = true := by
              generalize partD (roadsN x) (lettersN x) = p at pm
              simp only [List.mem_cons, List.not_mem_nil, or_false] at pm
              rcases pm with rfl | rfl | rfl <;> decide +kernel
            rw [ne]
            exact iteT ⟨_, rfl, by show 2 ≤ sizeLine; decide, fun t ht => ky _ pd dd _ _ (s15.trans (same_upd ht)) ⟨t, rfl, upd_same⟩⟩
end
end Hc


set_option Elab.async false
set_option linter.all false
set_option pp.maxSteps 900
set_option maxRecDepth 100000
set_option maxHeartbeats 4000000
set_option autoImplicit false
namespace Hc
open PySem L2
section
variable {P : Program} {w : World} {K : PySem.W.Frag} {mg : Str → Option Value} {base : Heap}
def spAsked : Sp := fun vs H Q _ =>
  (∃ (x : Str), vs = [.str x] ∧ x.length ≤ 9000 ∧ ∀ v r H', Same H H' → ResAt H' v r → ResIs x r → Q v H') ∨
  (∃ (h : Addr) (v : V) (d0 : D), vs = [v] ∧ Rp H h v d0 ∧ isStr d0 = false ∧ ∀ v H', Same H H' → ResAt H' v (.text 0) → Q v H')
theorem ok__law_asked (T : Tx K mg) (hB : BehF K mg w) : FnOk P w K mg base CX0 12 T._law_asked.f T._law_asked.fd ["_law_text"] spAsked := by
  refine T._law_asked.F.ok sc_law_asked (fun vs H Q E h => ?_) (fun cdv A outer s H vs Q E hr h => ?_)
  · rcases h with ⟨x, rfl, _⟩ | ⟨h, v, d0, rfl, _⟩ <;> rfl
  · refine ⟨_, (pss_cons (ps_set (i := 1) sc_law_asked.nd rfl (Or.inl rfl) (pe_tup (pa_cons pe_str (pa_cons pe_non pa_nil))))
      (pss_cons (ps_try_row (tb := (fun W => tSeq (tAsg (tCallS (spReadDay K T.Day.C T.Web.C T.x_BadText.C T.x_BadWeb.C T.x_BadDay.C) (WE W) (tCons (tVar 0) tNil)) (gName 2)) (tSeq (tAsg (tFld K (tVar 2) "web") (gName 3)) (tSeq (tAsg (tLst tNil) (gName 4)) (tSeq (tFor (iRng1 (tCons (tCB (rLenQ K) (tCons (tFld K (tVar 3) "roads") tNil)) tNil)) (gName 5) (tDrop (tBM K "list" rAppend (tVar 4) (tCons (tLst (tCons (tOp (rIxT K) (tOp (rIxT K) (tFld K (tVar 3) "roads") (tVar 5)) (tC (.int 0))) (tCons (tOp (rIxT K) (tOp (rIxT K) (tFld K (tVar 3) "roads") (tVar 5)) (tC (.int 1))) (tCons (tOp (rIxT K) (tFld K (tVar 3) "rooms") (tVar 5)) (tCons (tOp (rIxT K) (tFld K (tVar 3) "times") (tVar 5)) tNil))))) tNil)))) (tSeq (tAsg (tLst tNil) (gName 6)) (tSeq (tFor (iRng1 (tCons (tCB (rLenQ K) (tCons (tFld K (tVar 2) "letters") tNil)) tNil)) (gName 7) (tSeq (tAsg (tLst (tCons (tOp (rIxT K) (tOp (rIxT K) (tFld K (tVar 2) "letters") (tVar 7)) (tC (.int 1))) tNil)) (gName 8)) (tSeq (tFor (iRng1 (tCons (tCB (rLenQ K) (tCons (tOp (rIxT K) (tOp (rIxT K) (tFld K (tVar 2) "letters") (tVar 7)) (tC (.int 0))) tNil)) tNil)) (gName 9) (tAsg (tOp rCat (tVar 8) (tLst (tCons (tOp (rIxT K) (tOp (rIxT K) (tOp (rIxT K) (tFld K (tVar 2) "letters") (tVar 7)) (tC (.int 0))) (tVar 9)) (tCons (tOp (rIxT K) (tOp (rIxT K) (tFld K (tVar 2) "hours") (tVar 7)) (tVar 9)) tNil)))) (gName 8))) (tDrop (tBM K "list" rAppend (tVar 6) (tCons (tVar 8) tNil)))))) (tAsg (tTup (tCons (tC (.str "told")) (tCons (tLst (tCons (tFld K (tVar 3) "houses") (tCons (tVar 4) (tCons (tVar 6) tNil)))) tNil))) (gName 1))))))))) (l := [⟨.ref T.x_BadText.C, some 10, (fun a cls d => tAsg (tTup (tCons (tC (.str "text")) (tCons (tXf a cls d T.x_BadText.C "line" (tVar 10)) tNil))) (gName 1))⟩, ⟨.ref T.x_BadWeb.C, some 10, (fun a cls d => tAsg (tTup (tCons (tC (.str "web")) (tCons (tXf a cls d T.x_BadWeb.C "part" (tVar 10)) tNil))) (gName 1))⟩, ⟨.ref T.x_BadDay.C, some 10, (fun a cls d => tAsg (tTup (tCons (tC (.str "day")) (tCons (tXf a cls d T.x_BadDay.C "part" (tVar 10)) tNil))) (gName 1))⟩, ⟨.ref T.g_HourError.choose, none, (fun _ _ _ => tAsg (tTup (tCons (tC (.str "other")) (tCons (tC .non) tNil))) (gName 1))⟩]) rfl rfl sc_law_asked.nd (by simp)
      (fun W pn xe tk po => (pss_cons (ps_set (i := 2) sc_law_asked.nd rfl (Or.inl rfl) (by exact (pe_callS (ok_read_day T hB) (hr.mono (by decide)) rfl T.read_day.g T.read_day.F.kp T.read_day.b (fun σ => passAt tk σ) (by exact (pa_cons (pv 0) pa_nil)))))
        (pss_cons (ps_set (i := 3) sc_law_asked.nd rfl (Or.inl rfl) (by exact (pe_fld (pv 2) rfl)))
        (pss_cons (ps_set (i := 4) sc_law_asked.nd rfl (Or.inl rfl) (by exact (pe_lst pa_nil)))
        (pss_cons (ps_for po rfl (by exact (pi_range1 (by rfl) T.n_range (pa_cons (pe_callB call_len_seq (by rfl) T.n_len (by decide +kernel) (pa_cons (pe_fld (pv 3) rfl) pa_nil)) pa_nil))) (pg_name (i := 5) sc_law_asked.nd rfl (Or.inl rfl))
          (pss_one (ps_expr (by exact (pe_bm PySem.F.plainAttrs_list PySem.F.slot_list_append PySem.F.type_list_append mt_append (pv 4) (pa_cons (pe_lst (pa_cons (pe_ix ix_tup (pe_ix ix_tup (pe_fld (pv 3) rfl) (pv 5) (fun _ _ => rfl)) pe_int (fun _ _ => rfl)) (pa_cons (pe_ix ix_tup (pe_ix ix_tup (pe_fld (pv 3) rfl) (pv 5) (fun _ _ => rfl)) pe_int (fun _ _ => rfl)) (pa_cons (pe_ix ix_tup (pe_fld (pv 3) rfl) (pv 5) (fun _ _ => rfl)) (pa_cons (pe_ix ix_tup (pe_fld (pv 3) rfl) (pv 5) (fun _ _ => rfl)) pa_nil))))) pa_nil))))))
        (pss_cons (ps_set (i := 6) sc_law_asked.nd rfl (Or.inl rfl) (by exact (pe_lst pa_nil)))
        (pss_cons (ps_for po rfl (by exact (pi_range1 (by rfl) T.n_range (pa_cons (pe_callB call_len_seq (by rfl) T.n_len (by decide +kernel) (pa_cons (pe_fld (pv 2) rfl) pa_nil)) pa_nil))) (pg_name (i := 7) sc_law_asked.nd rfl (Or.inl rfl))
          (pss_cons (ps_set (i := 8) sc_law_asked.nd rfl (Or.inl rfl) (by exact (pe_lst (pa_cons (pe_ix ix_tup (pe_ix ix_tup (pe_fld (pv 2) rfl) (pv 7) (fun _ _ => rfl)) pe_int (fun _ _ => rfl)) pa_nil))))
          (pss_cons (ps_for po rfl (by exact (pi_range1 (by rfl) T.n_range (pa_cons (pe_callB call_len_seq (by rfl) T.n_len (by decide +kernel) (pa_cons (pe_ix ix_tup (pe_ix ix_tup (pe_fld (pv 2) rfl) (pv 7) (fun _ _ => rfl)) pe_int (fun _ _ => rfl)) pa_nil)) pa_nil))) (pg_name (i := 9) sc_law_asked.nd rfl (Or.inl rfl)) (pss_one (ps_set (i := 8) sc_law_asked.nd rfl (Or.inl rfl) (by exact (pe_op op_cat (pv 8) (pe_lst (pa_cons (pe_ix ix_tup (pe_ix ix_tup (pe_ix ix_tup (pe_fld (pv 2) rfl) (pv 7) (fun _ _ => rfl)) pe_int (fun _ _ => rfl)) (pv 9) (fun _ _ => rfl)) (pa_cons (pe_ix ix_tup (pe_ix ix_tup (pe_fld (pv 2) rfl) (pv 7) (fun _ _ => rfl)) (pv 9) (fun _ _ => rfl)) pa_nil))))))))
          (pss_one (ps_expr (by exact (pe_bm PySem.F.plainAttrs_list PySem.F.slot_list_append PySem.F.type_list_append mt_append (pv 6) (pa_cons (pv 8) pa_nil))))))))
        (pss_one (ps_set (i := 1) sc_law_asked.nd rfl (Or.inl rfl) (by exact (pe_tup (pa_cons pe_str (pa_cons (pe_lst (pa_cons (pe_fld (pv 3) rfl) (pa_cons (pv 4) (pa_cons (pv 6) pa_nil)))) pa_nil)))))))))))))
      (.named (.named (.named (.plain .nil ⟨rfl, by decide, Or.inl T.g_HourError.choose_spec⟩ (fun a oe cls d pn hz hf => pss_one (ps_set (i := 1) sc_law_asked.nd rfl (Or.inl rfl) (by exact (pe_tup (pa_cons pe_str (pa_cons pe_non pa_nil)))))))
        ⟨rfl, by decide, Or.inl T.x_BadDay.g⟩ rfl rfl (fun a oe cls d pn hz hf => pss_one (ps_set (i := 1) sc_law_asked.nd rfl (Or.inl rfl) (by exact (pe_tup (pa_cons pe_str (pa_cons (pe_xf T.x_BadDay.xf (T.x_BadDay.no _ (by simp)) hz hf (pv 10)) pa_nil))))))) ⟨rfl, by decide, Or.inl T.x_BadWeb.g⟩ rfl rfl (fun a oe cls d pn hz hf => pss_one (ps_set (i := 1) sc_law_asked.nd rfl (Or.inl rfl) (by exact (pe_tup (pa_cons pe_str (pa_cons (pe_xf T.x_BadWeb.xf (T.x_BadWeb.no _ (by simp)) hz hf (pv 10)) pa_nil))))))) ⟨rfl, by decide, Or.inl T.x_BadText.g⟩ rfl rfl (fun a oe cls d pn hz hf => pss_one (ps_set (i := 1) sc_law_asked.nd rfl (Or.inl rfl) (by exact (pe_tup (pa_cons pe_str (pa_cons (pe_xf T.x_BadText.xf (T.x_BadText.no _ (by simp)) hz hf (pv 10)) pa_nil))))))))
      (pss_one (ps_ret (pv 1))))), ?_⟩
    rcases h with ⟨x, rfl, hx, k⟩ | ⟨h, v, d0, rfl, r, i0, k⟩
    · refine ⟨by show 2 ≤ sizeLine; decide, fun t0 ht0 => ?_⟩
      have s0 := same_upd (o := .tup [V.str "none", .non]) ht0
      refine ⟨_, rfl, .inl ⟨t0, x, rfl, hx, fun ls rows hok he hd el er dk H1 q s1 WD => ?_, fun kk hb H1 d s1 e1 => ⟨true, T.x_BadText.te, fun _ a ha => ?_, fun z => (by cases z)⟩, fun part hok he hd H1 d s1 e1 => ⟨false, T.d_BadWeb_BadText, fun z => (by cases z), fun _ => ⟨true, T.x_BadWeb.te, fun _ a ha => ?_, fun z => (by cases z)⟩⟩, fun part hok he hd dd H1 d s1 e1 => ⟨false, T.d_BadDay_BadText, fun z => (by cases z), fun _ => ⟨false, T.d_BadDay_BadWeb, fun z => (by cases z), fun _ => ⟨true, T.x_BadDay.te, fun _ a ha => ?_, fun z => (by cases z)⟩⟩⟩⟩⟩
      · have sA := s0.trans s1
        have el2 := lts_inj (D.tup.inj (el.symm.trans (ms_ok hok).lts))
        have er2 := rows_inj (D.tup.inj (er.symm.trans (MsOk.rows (ms := numsOf "letter" (rowsX x)))))
        have k2 := fun v H' s' (A : ResAt H' v (.told (headN x) (numsOf "road" (rowsX x)) (numsOf "letter" (rowsX x)))) => k v _ H' s' A (.told hok he hd (by rw [← el2, ← er2]; exact dk))
        clear el2 er2
        have h4 := rows_road hok
        have hl := rows_len hx
        have hn := nums_len "road" (rowsX x)
        have MO : MsOk (numsOf "letter" (rowsX x)) := ms_ok hok
        have lm : (numsOf "letter" (rowsX x)).length ≤ (rowsX x).length := nums_len "letter" (rowsX x)
        have lm10 := rows_short2 (w := "letter") hx
        obtain rfl := lts_inj (D.tup.inj (el.symm.trans MO.lts))
        obtain rfl := rows_inj (D.tup.inj (er.symm.trans (MsOk.rows (ms := numsOf "letter" (rowsX x)))))
        have lm2 : (numsOf "letter" (rowsX x)).length ≤ 10000 := by omega
        obtain ⟨dy, fs, pw, v5, v6, hq, lf, fw, ff, fh, W, r5, r6⟩ := WD.ex
        have noD : ∀ f ∈ (["web", "letters", "hours"] : List Str), NoAttr K T.Day.C f := T.Day.no
        clear el er dk
        generalize numsOf "road" (rowsX x) = qs at *
        generalize numsOf "letter" (rowsX x) = ms at *
        have hl2 : qs.length ≤ 10000 := by omega
        clear hok he hd k ht0 s0 hn hl lm
        obtain ⟨dx, v2, v3, v4, hp, r2, r3, r4⟩ := W.ex
        refine ⟨_, rfl, q, T.Day.C, dy, _, _, rfl, hq, T.Day.cl, noD _ (by simp), fw, ?_⟩
        obtain ⟨pa, xs, rfl, ea, _, ra⟩ := tup_inv r2
        obtain ⟨pb, ys, rfl, eb, _, rb⟩ := tup_inv r3
        obtain ⟨pc, zs, rfl, ec, _, rc⟩ := tup_inv r4
        obtain rfl := rb.ints_inv
        obtain rfl := rc.ints_inv
        have lx := ra.len
        have lq : (rdsQ qs).length = qs.length := List.length_map _
        have no : ∀ f ∈ (["houses", "roads", "rooms", "times"] : List Str), NoAttr K T.Web.C f := T.Web.no
        refine ⟨by show 0 ≤ sizeLine; decide, fun L hL => ?_⟩
        have s2 := same_upd (o := .lst []) hL
        have eL : (upd H1 L (.lst [])) L = some (.lst []) := upd_same
        change gName 4 (.ref L) _ (upd H1 L (.lst [])) _
        generalize upd H1 L (.lst []) = H2 at s2 eL ⊢
        refine ⟨_, rfl, pw, T.Web.C, dx, _, _, rfl, s2 _ _ hp, T.Web.cl, no _ (by simp), wF_r _ _ _ _, pa, _, rfl, .inr (SqT.of (s2 _ _ ea)), ?_⟩
        rw [lx, lq]
        refine ⟨((qs.length : Nat) : Int), rfl, by omega, by omega, for_range (lo := 0) (n := ((qs.length : Nat) : Int).toNat) (fun i σ' H' => ∃ (o5 : Option V), σ' = [some (.str x), some (.ref t0), some (.ref q), some (.ref pw), some (.ref L), o5, none, none, none, none, none] ∧ Same H1 H' ∧ ∃ ws : List V, H' L = some (.lst ws) ∧ ws.length = i ∧ ∀ (j : Nat) (v : V), ws[j]? = some v → ∃ l qq, v = .ref l ∧ qs[j]? = some qq ∧ H' l = some (.lst (qq.map V.int)) ∧ l ≠ L)
          ⟨_, rfl, s2, [], eL, rfl, fun j v e => by simp at e⟩ ?_ ?_⟩
        · rintro i σ' H3 hi ⟨o5, rfl, s3, ws, eL3, lw, hw⟩
          rw [Int.zero_add]
          have hi : i < qs.length := by omega
          have eq := List.getElem?_eq_getElem hi
          obtain ⟨a, b, c, d, e4⟩ := four_of (h4 _ (List.getElem_mem hi))
          rw [e4] at eq
          obtain ⟨y, hy⟩ : ∃ y, xs[i]? = some y := ⟨xs[i]'(by omega), List.getElem?_eq_getElem (by omega)⟩
          obtain ⟨dd, hdd, rd⟩ := ra.get hy
          have : (rdsQ qs)[i]? = some (.tup [.int a, .int b]) := by unfold rdsQ; rw [List.getElem?_map, eq]; rfl
          rw [this] at hdd
          obtain rfl := (Option.some.inj hdd)
          obtain ⟨pq, us, rfl, eu, _, ru⟩ := tup_inv rd
          cases ru with
          | cons u1 ru =>
          cases ru with
          | cons u2 ru =>
          cases ru
          cases u1
          cases u2
          have e2c : ((colQ 2 qs).map V.int)[i]? = some (.int c) := by unfold colQ; rw [List.getElem?_map, List.getElem?_map, eq]; rfl
          have e3c : ((colQ 3 qs).map V.int)[i]? = some (.int d) := by unfold colQ; rw [List.getElem?_map, List.getElem?_map, eq]; rfl
          have hp3 := s3 _ _ hp
          have ea3 := s3 _ _ ea
          refine ⟨_, rfl, .inl ⟨rfl, _, SqL.of eL3⟩, ?_⟩
          refine ⟨_, rfl, pw, T.Web.C, dx, _, _, rfl, hp3, T.Web.cl, no _ (by simp), wF_r _ _ _ _, _, rfl, pa, _, _, _, rfl, rfl, SqT.of ea3, atI_nat hy, pq, _, 0, _, rfl, rfl, SqT.of (s3 _ _ eu), atI_nat (j := 0) rfl, ?_⟩
          refine ⟨_, rfl, pw, T.Web.C, dx, _, _, rfl, hp3, T.Web.cl, no _ (by simp), wF_r _ _ _ _, _, rfl, pa, _, _, _, rfl, rfl, SqT.of ea3, atI_nat hy, pq, _, 1, _, rfl, rfl, SqT.of (s3 _ _ eu), atI_nat (j := 1) rfl, ?_⟩
          refine ⟨_, rfl, pw, T.Web.C, dx, _, _, rfl, hp3, T.Web.cl, no _ (by simp), wF_m _ _ _ _, _, rfl, pb, _, _, _, rfl, rfl, SqT.of (s3 _ _ eb), atI_nat e2c, ?_⟩
          refine ⟨_, rfl, pw, T.Web.C, dx, _, _, rfl, hp3, T.Web.cl, no _ (by simp), wF_t _ _ _ _, _, rfl, pc, _, _, _, rfl, rfl, SqT.of (s3 _ _ ec), atI_nat e3c, by show 4 ≤ sizeLine; decide, fun N hN => ?_⟩
          have nLN := ne_of_none eL3 hN
          refine ⟨L, _, _, rfl, rfl, (upd_ne nLN).trans eL3, line_lt (by omega), _, rfl, same_putX (s3.trans (same_upd hN)) hL, _, upd_same, by rw [List.length_append, lw]; rfl, fun j v ev => ?_⟩
          by_cases hj : j < ws.length
          · rw [List.getElem?_append_left hj] at ev
            obtain ⟨l, qq, f1, f2, f3, f4⟩ := hw j v ev
            exact ⟨l, qq, f1, f2, (upd_ne f4).trans (same_upd hN _ _ f3), f4⟩
          · rw [List.getElem?_append_right (by omega)] at ev
            have hj0 : j - ws.length = 0 := by
              cases g : j - ws.length with
              | zero => rfl
              | succ n => rw [g] at ev; simp at ev
            rw [hj0] at ev
            obtain rfl : v = .ref N := by simpa using ev.symm
            have ej : j = i := by omega
            rw [ej]
            exact ⟨N, _, rfl, eq, (upd_ne (Ne.symm nLN)).trans upd_same, Ne.symm nLN⟩
        · rintro σ' H3 ⟨o5, rfl, s3, ws, eL3, lw, hw⟩
          rw [Int.toNat_natCast] at lw
          have LA : ListsAt H3 L qs := ⟨ws, eL3, lw, fun j v qq e1 e2 => by
            obtain ⟨l, q2, f1, f2, f3, _⟩ := hw j v e1
            rw [e2] at f2
            rw [Option.some.inj f2]
            exact ⟨l, f1, f3⟩⟩
          obtain ⟨pl, ys, rfl, el5, _, rl⟩ := tup_inv (show Rp H1 _ v5 (.tup ((ms.map lwOf).map ltD)) from r5)
          obtain ⟨ph, zs6, rfl, eh6, _, rh⟩ := tup_inv (show Rp H1 _ v6 (.tup ((ms.map hrOf).map rowD)) from r6)
          have ll := rl.len
          have lh := rh.len
          rw [List.length_map, List.length_map] at ll lh
          refine ⟨by show 0 ≤ sizeLine; decide, fun N hN => ?_⟩
          have s4 := same_upd (o := .lst []) hN
          have eN : (upd H3 N (.lst [])) N = some (.lst []) := upd_same
          change gName 6 (.ref N) _ (upd H3 N (.lst [])) _
          generalize upd H3 N (.lst []) = H4 at s4 eN ⊢
          have s14 := s3.trans s4
          refine ⟨_, rfl, q, T.Day.C, dy, _, _, rfl, s14 _ _ hq, T.Day.cl, noD _ (by simp), ff, pl, _, rfl, .inr (SqT.of (s14 _ _ el5)), ?_⟩
          rw [ll]
          refine ⟨((ms.length : Nat) : Int), rfl, by omega, by omega, for_range (lo := 0) (n := ((ms.length : Nat) : Int).toNat) (fun i σ' H' => ∃ (o7 o8 o9 : Option V), σ' = [some (.str x), some (.ref t0), some (.ref q), some (.ref pw), some (.ref L), o5, some (.ref N), o7, o8, o9, none] ∧ Same H3 H' ∧ ∃ ws : List V, H' N = some (.lst ws) ∧ ws.length = i ∧ ∀ (j : Nat) (v : V), ws[j]? = some v → ∃ l qq, v = .ref l ∧ ms[j]? = some qq ∧ H' l = some (.lst (qq.map V.int)) ∧ l ≠ N)
            ⟨_, _, _, rfl, s4, [], eN, rfl, fun j v e => by simp at e⟩ ?_ ?_⟩
          · rintro i σ' H5 hi ⟨o7, o8, o9, rfl, s5, ws5, eN5, lw5, hw5⟩
            rw [Int.zero_add]
            have hi : i < ms.length := by omega
            have em := List.getElem?_eq_getElem hi
            have hm := List.getElem_mem hi
            have mo := MO.odd _ hm
            have mp := MO.pos _ hm
            have m10 := lm10 _ hm
            generalize ms[i] = m at *
            obtain ⟨y, hy⟩ : ∃ y, ys[i]? = some y := ⟨ys[i]'(by omega), List.getElem?_eq_getElem (by omega)⟩
            obtain ⟨z, hz⟩ : ∃ z, zs6[i]? = some z := ⟨zs6[i]'(by omega), List.getElem?_eq_getElem (by omega)⟩
            obtain ⟨dd, hdd, rd⟩ := rl.get hy
            obtain ⟨de, hde, re⟩ := rh.get hz
            rw [List.getElem?_map, List.getElem?_map, em] at hdd hde
            have hdd : some (ltD (lwOf m)) = some dd := hdd
            have hde : some (rowD (hrOf m)) = some de := hde
            obtain rfl := Option.some.inj hdd
            obtain rfl := Option.some.inj hde
            rw [← letQ_lw mp] at rd
            obtain ⟨pq, us, rfl, eu, _, ru⟩ := tup_inv rd
            obtain ⟨pz, us2, rfl, ez, _, rz⟩ := tup_inv (show Rp H1 _ z (.tup ((evn m 2).map D.int)) from re)
            obtain rfl := rz.ints_inv
            cases ru with
            | cons u1 ru =>
            cases ru with
            | cons u2 ru =>
            cases ru
            cases u2
            obtain ⟨py, us3, rfl, ey, _, ry⟩ := tup_inv u1
            obtain rfl := ry.ints_inv
            have s15 := s3.trans s5
            refine ⟨_, rfl, q, T.Day.C, dy, _, _, rfl, s15 _ _ hq, T.Day.cl, noD _ (by simp), ff, _, rfl, pl, _, _, _, rfl, rfl, SqT.of (s15 _ _ el5), atI_nat hy, pq, _, 1, _, rfl, rfl, SqT.of (s15 _ _ eu), atI_nat (j := 1) rfl, by show 1 ≤ sizeLine; decide, fun B hB => ?_⟩
            obtain ⟨s6, eB⟩ : Same H5 (upd H5 B (.lst [V.int (m.getD 0 0)])) ∧ (upd H5 B (.lst [V.int (m.getD 0 0)])) B = some (.lst [V.int (m.getD 0 0)]) := ⟨same_upd hB, upd_same⟩
            have nNB := ne_of_none eN5 hB
            change gName 8 (.ref B) _ (upd H5 B (.lst [V.int (m.getD 0 0)])) _
            generalize upd H5 B (.lst [V.int (m.getD 0 0)]) = H6 at s6 eB ⊢
            have s16 := s15.trans s6
            refine ⟨_, rfl, q, T.Day.C, dy, _, _, rfl, s16 _ _ hq, T.Day.cl, noD _ (by simp), ff, _, rfl, pl, _, _, _, rfl, rfl, SqT.of (s16 _ _ el5), atI_nat hy, pq, _, 0, _, rfl, rfl, SqT.of (s16 _ _ eu), atI_nat (j := 0) rfl, py, _, rfl, .inr (SqT.of (s16 _ _ ey)), ?_⟩
            rw [List.length_map]
            obtain ⟨n1, n2⟩ := evn_two_len mo.2
            refine ⟨(((evn m 1).length : Nat) : Int), rfl, by omega, by omega, for_range (lo := 0) (n := (((evn m 1).length : Nat) : Int).toNat) (fun j σ' H' => ∃ (o9 : Option V) (b : Addr), σ' = [some (.str x), some (.ref t0), some (.ref q), some (.ref pw), some (.ref L), o5, some (.ref N), some (.int ((i : Nat) : Int)), some (.ref b), o9, none] ∧ Same H5 H' ∧ b ≠ N ∧ H' b = some (.lst ((m.getD 0 0 :: flat2 (((evn m 1).zip (evn m 2)).take j)).map V.int)))
              ⟨_, B, rfl, s6, Ne.symm nNB, eB⟩ ?_ ?_⟩
            · rintro j σ' H7 hj ⟨o9, b, rfl, s7, nb, eb⟩
              rw [Int.zero_add]
              have hj : 2 + 2 * j < m.length := by omega
              have s17 := s15.trans s7
              have w1 : ((evn m 1).map V.int)[j]? = some (.int (m.getD (1 + 2 * j) 0)) := by rw [List.getElem?_map, evn_at (by omega)]; rfl
              have w2 : ((evn m 2).map V.int)[j]? = some (.int (m.getD (2 + 2 * j) 0)) := by rw [List.getElem?_map, evn_at (by omega)]; rfl
              have ezj : ((evn m 1).zip (evn m 2))[j]? = some (m.getD (1 + 2 * j) 0, m.getD (2 + 2 * j) 0) := by rw [List.getElem?_zip_eq_some]; exact ⟨evn_at (by omega), evn_at (by omega)⟩
              refine ⟨_, rfl, _, rfl, q, T.Day.C, dy, _, _, rfl, s17 _ _ hq, T.Day.cl, noD _ (by simp), ff, _, rfl, pl, _, _, _, rfl, rfl, SqT.of (s17 _ _ el5), atI_nat hy, pq, _, 0, _, rfl, rfl, SqT.of (s17 _ _ eu), atI_nat (j := 0) rfl, _, rfl, py, _, _, _, rfl, rfl, SqT.of (s17 _ _ ey), atI_nat w1, ?_⟩
              refine ⟨_, rfl, q, T.Day.C, dy, _, _, rfl, s17 _ _ hq, T.Day.cl, noD _ (by simp), fh, _, rfl, ph, _, _, _, rfl, rfl, SqT.of (s17 _ _ eh6), atI_nat hz, _, rfl, pz, _, _, _, rfl, rfl, SqT.of (s17 _ _ ez), atI_nat w2, by show 2 ≤ sizeLine; decide, fun B2 hB2 => ?_⟩
              have s8 := same_upd (o := .lst [V.int (m.getD (1 + 2 * j) 0), .int (m.getD (2 + 2 * j) 0)]) hB2
              refine ⟨b, B2, _, _, rfl, rfl, s8 _ _ eb, upd_same, ?_, fun C hC => ?_⟩
              · have h1 := flat2_len (((evn m 1).zip (evn m 2)).take j)
                rw [List.length_take] at h1
                rw [List.length_map, List.length_cons, h1]
                show _ + 2 ≤ _
                exact line_le (by omega)
              · have s9 := same_upd (o := .lst ((m.getD 0 0 :: flat2 (((evn m 1).zip (evn m 2)).take j)).map V.int ++ [V.int (m.getD (1 + 2 * j) 0), .int (m.getD (2 + 2 * j) 0)])) hC
                have nCN : N ≠ C := ne_of_none (s8 _ _ (s7 _ _ eN5)) hC
                refine ⟨_, C, rfl, (s7.trans s8).trans s9, Ne.symm nCN, ?_⟩
                rw [upd_same, take_more ezj]
                unfold flat2
                simp
            · rintro σ' H7 ⟨o9, b, rfl, s7, nb, eb⟩
              have hz2 : ((evn m 1).zip (evn m 2)).length = (evn m 1).length := by rw [List.length_zip, n1, n2, Nat.min_self]
              rw [Int.toNat_natCast, List.take_of_length_le (by rw [hz2]; exact Nat.le_refl _), ← evn_join mo.2] at eb
              have eN7 := s7 _ _ eN5
              refine ⟨_, rfl, .inl ⟨rfl, _, SqL.of eN7⟩, _, rfl, N, _, _, rfl, rfl, eN7, line_lt (by omega), _, _, _, rfl, same_putX (s5.trans s7) hN, _, upd_same, by rw [List.length_append, lw5]; rfl, fun j v ev => ?_⟩
              by_cases hj : j < ws5.length
              · rw [List.getElem?_append_left hj] at ev
                obtain ⟨l, qq, f1, f2, f3, f4⟩ := hw5 j v ev
                exact ⟨l, qq, f1, f2, (upd_ne f4).trans (s7 _ _ f3), f4⟩
              · rw [List.getElem?_append_right (by omega)] at ev
                have hj0 : j - ws5.length = 0 := by
                  cases g : j - ws5.length with
                  | zero => rfl
                  | succ n => rw [g] at ev; simp at ev
                rw [hj0] at ev
                obtain rfl : v = .ref b := by simpa using ev.symm
                have ej : j = i := by omega
                rw [ej]
                exact ⟨b, _, rfl, em, (upd_ne nb).trans eb, nb⟩
          · rintro σ' H5 ⟨o7, o8, o9, rfl, s5, ws5, eN5, lw5, hw5⟩
            rw [Int.toNat_natCast] at lw5
            have LB : ListsAt H5 N ms := ⟨ws5, eN5, lw5, fun j v qq e1 e2 => by
              obtain ⟨l, q2, f1, f2, f3, _⟩ := hw5 j v e1
              rw [e2] at f2
              rw [Option.some.inj f2]
              exact ⟨l, f1, f3⟩⟩
            have LA5 := LA.same s5
            have s15 := s3.trans s5
            refine ⟨_, rfl, pw, T.Web.C, dx, _, _, rfl, s15 _ _ hp, T.Web.cl, no _ (by simp), wF_h _ _ _ _, _, rfl, _, rfl, by show 3 ≤ sizeLine; decide, fun M hM => ⟨by show 2 ≤ sizeLine; decide, fun t ht => ⟨_, rfl, ?_⟩⟩⟩
            have s6 := same_upd (o := .lst [V.int (headN x), .ref L, .ref N]) hM
            have s7 := same_upd (o := .tup [V.str "told", .ref M]) ht
            exact k2 _ _ (sA.trans (s15.trans (s6.trans s7))) ⟨t, M, L, N, rfl, upd_same, s7 _ _ upd_same, (LA5.same s6).same s7, (LB.same s6).same s7⟩
      · refine ⟨_, rfl, rfl, rfl, d, _, V.int kk, rfl, e1, rfl, by show 2 ≤ sizeLine; decide, fun t ht => ⟨_, rfl, ?_⟩⟩
        exact k _ (.text kk) _ ((s0.trans s1).trans (same_upd ht)) ⟨t, rfl, upd_same⟩ (.text hb)
      · refine ⟨_, rfl, rfl, rfl, d, _, V.str part, rfl, e1, rfl, by show 2 ≤ sizeLine; decide, fun t ht => ⟨_, rfl, ?_⟩⟩
        exact k _ (.web part) _ ((s0.trans s1).trans (same_upd ht)) ⟨t, rfl, upd_same⟩ (.web hok he hd)
      · refine ⟨_, rfl, rfl, rfl, d, _, V.str part, rfl, e1, rfl, by show 2 ≤ sizeLine; decide, fun t ht => ⟨_, rfl, ?_⟩⟩
        exact k _ (.day part) _ ((s0.trans s1).trans (same_upd ht)) ⟨t, rfl, upd_same⟩ (.day hok he hd dd)
    · refine ⟨by show 2 ≤ sizeLine; decide, fun t0 ht0 => ?_⟩
      have s0 := same_upd (o := .tup [V.str "none", .non]) ht0
      refine ⟨_, rfl, .inr ⟨h, v, d0, rfl, r.same s0, i0, fun H1 d s1 e1 => ⟨true, T.x_BadText.te, fun _ a ha => ?_, fun z => (by cases z)⟩⟩⟩
      refine ⟨_, rfl, rfl, rfl, d, _, V.int 0, rfl, e1, rfl, by show 2 ≤ sizeLine; decide, fun t ht => ⟨_, rfl, ?_⟩⟩
      exact k _ _ ((s0.trans s1).trans (same_upd ht)) ⟨t, rfl, upd_same⟩
end
end Hc


set_option Elab.async false
set_option linter.all false
set_option pp.maxSteps 900
set_option maxRecDepth 100000
set_option maxHeartbeats 4000000
set_option autoImplicit false
namespace Hc
open PySem L2
/-! ### how long texts become -/
def wsum (L : List Str) : Nat := (L.map (·.length)).sum
theorem wsum_app (A B : List Str) : wsum (A ++ B) = wsum A + wsum B := by unfold wsum; rw [List.map_append, List.sum_append]
theorem wsum_one (a : Str) : wsum [a] = a.length := by unfold wsum; simp
theorem wsum_cut (L : List Str) {a b : Nat} (h : a ≤ b) : wsum (L.take a) + wsum (L.drop b) ≤ wsum L ∧ (L.take a).length + (L.drop b).length ≤ L.length := by
  have e : L = L.take a ++ ((L.drop a).take (b - a) ++ L.drop b) := by
    have : (L.drop a).take (b - a) ++ L.drop b = L.drop a := by
      have h2 : L.drop b = (L.drop a).drop (b - a) := by rw [List.drop_drop]; congr 1; omega
      rw [h2, List.take_append_drop]
    rw [this, List.take_append_drop]
  constructor
  · conv => rhs; rw [e, wsum_app, wsum_app]
    omega
  · conv => rhs; rw [e, List.length_append, List.length_append]
    omega
theorem wsum_mem {L : List Str} {w : Str} (h : w ∈ L) : w.length ≤ wsum L := by
  induction L with
  | nil => cases h
  | cons a r ih =>
    have e : wsum (a :: r) = a.length + wsum r := by unfold wsum; simp
    rcases List.mem_cons.mp h with rfl | h
    · omega
    · have := ih h; omega
theorem spl_sum (c : Nat) : ∀ (l acc : List Nat), ((TL.spl [c] 0 acc l).map List.length).sum + (TL.spl [c] 0 acc l).length = acc.length + l.length + 1
  | [], acc => by rw [TL.spl_nil]; simp
  | d :: r, acc => by
    by_cases h : TL.pre [c] (d :: r) = true
    · rw [TL.spl_hit h]
      have ih := spl_sum c r []
      show (acc.length + ((TL.spl [c] 0 [] r).map List.length).sum) + ((TL.spl [c] 0 [] r).length + 1) = _
      simp only [List.length_nil, List.length_cons] at ih ⊢
      omega
    · rw [TL.spl_miss (by simpa using h)]
      have ih := spl_sum c r (acc ++ [d])
      simp only [List.length_append, List.length_nil, List.length_cons] at ih ⊢
      omega
theorem wsum_split {x y : Str} {c : Nat} (hy : TL.tl y = [c]) (hs : Sep y) : wsum (Txt.split x y) + (Txt.split x y).length = x.length + 1 := by
  have e := TL.split_spl x y hs.1 (TL.kind_ok hs.2)
  rw [hy] at e
  have h := spl_sum c (TL.tl x) []
  rw [← e, List.length_map, List.map_map] at h
  have : (Txt.split x y).map (List.length ∘ TL.tl) = (Txt.split x y).map (·.length) := List.map_congr_left fun w _ => (TL.len_tl w).symm
  rw [this] at h
  unfold wsum
  rw [TL.len_tl x]
  simpa using h
theorem joinL_len (S : List Nat) : ∀ ps : List (List Nat), (TL.joinL S ps).length ≤ (ps.map List.length).sum + ps.length * S.length
  | [] => by simp [TL.joinL]
  | [p] => by simp [TL.joinL]
  | p :: q :: r => by
    have ih := joinL_len S (q :: r)
    rw [joinL_cons2 S p (by simp), List.length_append, List.length_append]
    rw [List.map_cons, List.sum_cons, List.length_cons, Nat.add_mul]
    omega
theorem join_wsum (y : Str) (ws : List Str) : (Txt.join y ws).length ≤ wsum ws + ws.length * y.length := by
  rw [TL.len_tl, TL.join_eq, TL.tl_join]
  have h := joinL_len (TL.tl y) (ws.map TL.tl)
  rw [List.length_map, List.map_map] at h
  have : ws.map (List.length ∘ TL.tl) = ws.map (·.length) := List.map_congr_left fun w _ => (TL.len_tl w).symm
  rw [this, ← TL.len_tl] at h
  exact h
theorem cutS_len (z : Str) (lo hi : Option Int) : (cutS z lo hi).length ≤ z.length := by
  have : (cutS z lo hi).length = ((z.cps.toList.drop (HT.sIx z.length 0 lo)).take (HT.sIx z.length z.length hi - HT.sIx z.length 0 lo)).length := by
    show (Array.size _) = _
    simp [cutS]
  rw [this, List.length_take, List.length_drop, Array.length_toList]
  show min _ (z.length - _) ≤ z.length
  omega
theorem cutS_two (z : Str) {a b : Int} (a0 : 0 ≤ a) (h : a ≤ b) : (cutS z none (some a)).length + (cutS z (some b) none).length ≤ z.length := by
  obtain ⟨i, rfl⟩ := Int.eq_ofNat_of_zero_le a0
  obtain ⟨j, rfl⟩ := Int.eq_ofNat_of_zero_le (Int.le_trans a0 h)
  have e1 : HT.sIx z.length 0 none = 0 := rfl
  have e2 : HT.sIx z.length z.length (some ((i : Nat) : Int)) = min i z.length := by
    show (if ((i : Nat) : Int) < 0 then (((i : Nat) : Int) + (z.length : Int)).toNat else min (((i : Nat) : Int)).toNat z.length) = _
    rw [if_neg (by omega)]; omega
  have e3 : HT.sIx z.length 0 (some ((j : Nat) : Int)) = min j z.length := by
    show (if ((j : Nat) : Int) < 0 then (((j : Nat) : Int) + (z.length : Int)).toNat else min (((j : Nat) : Int)).toNat z.length) = _
    rw [if_neg (by omega)]; omega
  have l1 : (cutS z none (some ((i : Nat) : Int))).length ≤ min i z.length := by
    have : (cutS z none (some ((i : Nat) : Int))).length = ((z.cps.toList.drop (HT.sIx z.length 0 none)).take (HT.sIx z.length z.length (some ((i : Nat) : Int)) - HT.sIx z.length 0 none)).length := by
      show (Array.size _) = _
      simp [cutS]
    rw [this, e1, e2, List.length_take]
    omega
  have l2 : (cutS z (some ((j : Nat) : Int)) none).length ≤ z.length - min j z.length := by
    have : (cutS z (some ((j : Nat) : Int)) none).length = ((z.cps.toList.drop (HT.sIx z.length 0 (some ((j : Nat) : Int)))).take (HT.sIx z.length z.length none - HT.sIx z.length 0 (some ((j : Nat) : Int)))).length := by
      show (Array.size _) = _
      simp [cutS]
    rw [this, e3, List.length_take, List.length_drop, Array.length_toList]
    show min _ (z.length - _) ≤ _
    omega
  omega
theorem cutV_to (xs : List V) (i : Nat) : cutV xs none (some ((i : Nat) : Int)) = xs.take i := by
  have s1 : HT.sIx xs.length 0 none = 0 := rfl
  have s2 : HT.sIx xs.length xs.length (some ((i : Nat) : Int)) = min i xs.length := by
    show (if ((i : Nat) : Int) < 0 then (((i : Nat) : Int) + (xs.length : Int)).toNat else min (((i : Nat) : Int)).toNat xs.length) = _
    rw [if_neg (by omega)]; omega
  unfold cutV
  rw [s1, s2, List.drop_zero, Nat.sub_zero, List.take_eq_take_iff]
  omega
theorem cutV_from (xs : List V) (i : Nat) : cutV xs (some ((i : Nat) : Int)) none = xs.drop i := by
  have s1 : HT.sIx xs.length 0 (some ((i : Nat) : Int)) = min i xs.length := by
    show (if ((i : Nat) : Int) < 0 then (((i : Nat) : Int) + (xs.length : Int)).toNat else min (((i : Nat) : Int)).toNat xs.length) = _
    rw [if_neg (by omega)]; omega
  have s2 : HT.sIx xs.length xs.length none = xs.length := rfl
  unfold cutV
  rw [s1, s2]
  by_cases h : i ≤ xs.length
  · rw [Nat.min_eq_left h]
    exact List.take_of_length_le (by rw [List.length_drop]; exact Nat.le_refl _)
  · rw [Nat.min_eq_right (by omega), List.drop_eq_nil_of_le (Nat.le_refl _), List.drop_eq_nil_of_le (by omega)]
    simp
end Hc


set_option Elab.async false
set_option linter.all false
set_option pp.maxSteps 900
set_option maxRecDepth 100000
set_option maxHeartbeats 4000000
set_option autoImplicit false
namespace Hc
open PySem L2
def ODD1 : List Str := ["0", "1", "2", "3", "4", "12", "13", "00", "01", "-1", "+1", "1.0", "", "a", "web", "road", "letter", "1000000", "1000001"]
def ODD2 : List Str := [Txt.mul "1" 9, Txt.mul "1" 10, "7", "24", "Road"]
theorem odd_len : ∀ w ∈ ODD1 ++ ODD2, w.length ≤ 10 := by
  have : (ODD1 ++ ODD2).all (fun w => decide (w.length ≤ 10)) = true := by decide +kernel
  intro w hw
  exact of_decide_eq_true (List.all_eq_true.mp this w hw)
theorem strs_app (A B : List Str) : A.map V.str ++ B.map V.str = (A ++ B).map V.str := (List.map_append ..).symm
theorem cut_to (W : List Str) (i : Nat) : cutV (W.map V.str) none (some ((i : Nat) : Int)) = (W.take i).map V.str := by rw [cutV_to, List.map_take]
theorem cut_from (W : List Str) (i : Nat) : cutV (W.map V.str) (some ((i : Nat) : Int)) none = (W.drop i).map V.str := by rw [cutV_from, List.map_drop]
theorem cut_to1 (W : List Str) (i : Nat) : cutV (W.map V.str) none (some (((i : Nat) : Int) + 1)) = (W.take (i + 1)).map V.str := cut_to W (i + 1)
theorem cut_from1 (W : List Str) (i : Nat) : cutV (W.map V.str) (some (((i : Nat) : Int) + 1)) none = (W.drop (i + 1)).map V.str := cut_from W (i + 1)
theorem wsum_dup {W : List Str} {a : Nat} (ha : a < W.length) : wsum (W.take (a + 1)) + wsum (W.drop a) ≤ wsum W + wsum W ∧ (W.take (a + 1)).length + (W.drop a).length = W.length + 1 := by
  have h1 := (wsum_cut W (Nat.le_refl (a + 1))).1
  have h2 := (wsum_cut W (Nat.le_refl a)).1
  refine ⟨by omega, ?_⟩
  rw [List.length_take, List.length_drop]; omega
section
variable {P : Program} {w : World} {K : PySem.W.Frag} {mg : Str → Option Value} {base : Heap}
def spWBent : Sp := fun vs H Q _ => ∃ (h c : Addr) (x : Str), vs = [.ref h, .str x] ∧ HandAt H h c ∧ x.length ≤ 9000 ∧ ∀ y H', HandAt H' h c → But h H H' → y.length ≤ 2 * x.length + 12 → Q (.str y) H'
theorem ok__law_word_bent (T : Tx K mg) : FnOk P w K mg base CX0 2 T._law_word_bent.f T._law_word_bent.fd ["_law_hand_here", "_law_line_here"] spWBent := by
  refine T._law_word_bent.F.ok sc_law_word_bent (fun vs H Q E h => ?_) (fun cdv A outer s H vs Q E hr h => ?_)
  · obtain ⟨h, c, x, rfl, _⟩ := h
    rfl
  · obtain ⟨h, c, x, rfl, hA, hx, k⟩ := h
    refine ⟨_, (pss_cons (ps_set (i := 2) sc_law_word_bent.nd rfl (Or.inl rfl) (pe_split (pv 1) pe_str))
      (pss_cons (ps_set (i := 3) sc_law_word_bent.nd rfl (Or.inl rfl) (pe_call (ok__law_draw T) (hr.mono (by decide)) rfl T._law_draw.g T._law_draw.F.kp T._law_draw.b .nil pass0 (pa_cons (pv 0) (pa_cons (pe_callB call_len_seq (by rfl) T.n_len (by decide +kernel) (pa_cons (pv 2) pa_nil)) pa_nil))))
      (pss_cons (ps_set (i := 4) sc_law_word_bent.nd rfl (Or.inl rfl) (pe_lst (pa_cons pe_str (pa_cons pe_str (pa_cons pe_str (pa_cons pe_str (pa_cons pe_str (pa_cons pe_str (pa_cons pe_str (pa_cons pe_str (pa_cons pe_str (pa_cons pe_str (pa_cons pe_str (pa_cons pe_str (pa_cons pe_str (pa_cons pe_str (pa_cons pe_str (pa_cons pe_str (pa_cons pe_str (pa_cons pe_str (pa_cons pe_str pa_nil)))))))))))))))))))))
      (pss_cons (ps_set (i := 4) sc_law_word_bent.nd rfl (Or.inl rfl) (pe_op op_cat (pv 4) (pe_lst (pa_cons (pe_op op_repS pe_str pe_int) (pa_cons (pe_op op_repS pe_str pe_int) (pa_cons pe_str (pa_cons pe_str (pa_cons pe_str pa_nil))))))))
      (pss_cons (ps_set (i := 5) sc_law_word_bent.nd rfl (Or.inl rfl) (pe_call (ok__law_draw T) (hr.mono (by decide)) rfl T._law_draw.g T._law_draw.F.kp T._law_draw.b .nil pass0 (pa_cons (pv 0) (pa_cons pe_int pa_nil))))
      (pss_cons (ps_if (pt_cmpR op_eq (pv 5) pe_int (nomark _))
      (pss_one (ps_ret (pe_join pe_str (pe_op op_cat (pe_slice sl_list (pv 2) po_none (po_some (pv 3))) (pe_slice sl_list (pv 2) (po_some (pe_op op_add (pv 3) pe_int)) po_none)))))
      pss_nil)
      (pss_cons (ps_if (pt_cmpR op_eq (pv 5) pe_int (nomark _))
      (pss_one (ps_ret (pe_join pe_str (pe_op op_cat (pe_slice sl_list (pv 2) po_none (po_some (pe_op op_add (pv 3) pe_int))) (pe_slice sl_list (pv 2) (po_some (pv 3)) po_none)))))
      pss_nil)
      (pss_one (ps_ret (pe_join pe_str (pe_op op_cat (pe_op op_cat (pe_slice sl_list (pv 2) po_none (po_some (pv 3))) (pe_lst (pa_cons (pe_ix ix_list (pv 4) (pe_call (ok__law_draw T) (hr.mono (by decide)) rfl T._law_draw.g T._law_draw.F.kp T._law_draw.b .nil pass0 (pa_cons (pv 0) (pa_cons (pe_callB call_len_seq (by rfl) T.n_len (by decide +kernel) (pa_cons (pv 4) pa_nil)) pa_nil))) (fun _ _ => rfl)) pa_nil))) (pe_slice sl_list (pv 2) (po_some (pe_op op_add (pv 3) pe_int)) po_none)))))))))))), ?_⟩
    have hsum := wsum_split (x := x) tl_sp sep_sp
    have hne := split_ne (x := x) sep_sp
    refine ⟨_, rfl, ⟨_, rfl⟩, x, _, rfl, rfl, by decide +kernel, by rw [sizeLine_eq]; omega, fun A hAn => ?_⟩
    obtain ⟨s1, eA, nA, nAc, hA1⟩ := new_facts (o := .lst ((Txt.split x " ").map V.str)) hA hAn rfl
    change gName 2 (.ref A) _ (upd H A (.lst ((Txt.split x " ").map V.str))) _
    generalize upd H A (.lst ((Txt.split x " ").map V.str)) = H1 at s1 eA hA1 ⊢
    generalize Txt.split x " " = W at *
    have hl : 0 < W.length := List.length_pos_iff.mpr hne
    have lW : (W.map V.str).length = W.length := List.length_map _
    refine ⟨_, rfl, _, rfl, A, _, rfl, .inl (SqL.of eA), h, c, _, rfl, hA1, by rw [lW]; omega, by rw [lW]; omega, fun a H2 a0 a1 hA2 b2 => ?_⟩
    rw [lW] at a1
    obtain ⟨a, rfl⟩ := Int.eq_ofNat_of_zero_le a0
    have ha : a < W.length := by omega
    have eA2 := b2 _ _ eA nA
    refine ⟨by show 19 ≤ sizeLine; decide, fun O1 hO1 => ?_⟩
    obtain ⟨s3, eO1, nO1, nO1c, hA3⟩ := new_facts (o := .lst (ODD1.map V.str)) hA2 hO1 rfl
    change gName 4 (.ref O1) _ (upd H2 O1 (.lst (ODD1.map V.str))) _
    generalize upd H2 O1 (.lst (ODD1.map V.str)) = H3 at s3 eO1 hA3 ⊢
    refine ⟨_, rfl, _, _, rfl, rfl, ⟨by decide +kernel, fun _ _ => (by decide +kernel), fun _ _ => (by decide +kernel)⟩, _, _, rfl, rfl, ⟨by decide +kernel, fun _ _ => (by decide +kernel), fun _ _ => (by decide +kernel)⟩, by show 5 ≤ sizeLine; decide, fun O2 hO2 => ?_⟩
    obtain ⟨s4, eO2, nO2, nO2c, hA4⟩ := new_facts (o := .lst (ODD2.map V.str)) hA3 hO2 rfl
    change rCat (.ref O1) (.ref O2) (upd H3 O2 (.lst (ODD2.map V.str))) _
    generalize upd H3 O2 (.lst (ODD2.map V.str)) = H4 at s4 eO2 hA4 ⊢
    refine ⟨O1, O2, _, _, rfl, rfl, s4 _ _ eO1, eO2, by show 19 + 5 ≤ sizeLine; decide, fun O hO => ?_⟩
    rw [strs_app]
    have lod : (ODD1 ++ ODD2).length = 24 := rfl
    have hod := odd_len
    obtain ⟨s5, eO, nO, nOc, hA5⟩ := new_facts (o := .lst ((ODD1 ++ ODD2).map V.str)) hA4 hO rfl
    generalize upd H4 O (.lst ((ODD1 ++ ODD2).map V.str)) = H5 at s5 eO hA5 ⊢
    generalize ODD1 ++ ODD2 = OD at *
    have b5 : But h H H5 := ((But.of s1).trans b2).trans (But.of ((s3.trans s4).trans s5))
    have eA5 := ((s3.trans s4).trans s5) _ _ eA2
    clear s1 eA hA1 b2 eA2 hA2 s3 s4 s5 eO1 eO2 hA3 hA4 hO hO1 hO2 hAn
    refine ⟨_, rfl, h, c, 4, rfl, hA5, by decide, by decide, fun kd H6 _ _ hA6 b6 => ?_⟩
    have eA6 := b6 _ _ eA5 nA
    have eO6 := b6 _ _ eO nO
    have b06 := b5.trans b6
    clear b5 eA5 eO hA5 b6
    have l1 : (" " : Str).length = 1 := by decide +kernel
    have fin : ∀ (H' : Hp) (p : Addr) (ys : List Str), Same H6 H' → H' p = some (.lst (ys.map V.str)) → wsum ys + ys.length ≤ 2 * x.length + 12 → ∃ (a : Str) (p' : Addr) (ys' : List Str), V.str " " = V.str a ∧ [V.ref p] = [V.ref p'] ∧ (SqL K H' p' (ys'.map V.str) ∨ SqT K H' p' (ys'.map V.str)) ∧ (ys'.map (·.length)).sum + ys'.length * a.length ≤ 16777216 ∧ Q (.str (Txt.join a ys')) H' := by
      intro H' p ys s' e hy
      have hj := join_wsum " " ys
      rw [l1, Nat.mul_one] at hj
      refine ⟨" ", p, ys, rfl, rfl, .inl (SqL.of e), ?_, k _ _ (hA6.mono s') (b06.trans (But.of s')) (by omega)⟩
      rw [l1, Nat.mul_one]
      unfold wsum at hy
      omega
    obtain ⟨c1, c2⟩ := wsum_cut W (show a ≤ a + 1 by omega)
    have hw := wsum_mem (List.getElem_mem ha)
    refine ⟨_, rfl, rfl, _, rfl, ite2 (fun _ => ?_) (fun _ => ?_)⟩
    · refine ⟨⟨_, rfl⟩, _, rfl, ?_⟩
      delta tNoPart tPart
      dsimp only
      refine ⟨_, rfl, (a : Nat), rfl, A, _, rfl, SqL.of eA6, fun B1 hB1 => ⟨_, rfl, _, rfl, _, _, rfl, rfl, _, rfl, A, _, rfl, SqL.of (same_upd hB1 _ _ eA6), fun B2 hB2 => ?_⟩⟩
      rw [cut_to] at hB2 ⊢
      rw [cut_from1]
      have s7 := (same_upd (o := .lst ((W.take a).map V.str)) hB1).trans (same_upd (o := .lst ((W.drop (a + 1)).map V.str)) hB2)
      have e1 := same_upd (o := .lst ((W.drop (a + 1)).map V.str)) hB2 B1 _ upd_same
      refine ⟨B1, B2, _, _, rfl, rfl, e1, upd_same, ?_, fun C hC => ?_⟩
      · rw [List.length_map, List.length_map]; exact line_le (by omega)
      · rw [strs_app]
        refine fin _ C _ (s7.trans (same_upd hC)) upd_same ?_
        rw [wsum_app, List.length_append]
        omega
    · refine ⟨_, rfl, rfl, _, rfl, ite2 (fun _ => ?_) (fun _ => ?_)⟩
      · refine ⟨⟨_, rfl⟩, _, rfl, ?_⟩
        delta tNoPart tPart
        dsimp only
        refine ⟨_, rfl, _, _, rfl, rfl, _, rfl, A, _, rfl, SqL.of eA6, fun B1 hB1 => ⟨_, rfl, _, rfl, (a : Nat), rfl, A, _, rfl, SqL.of (same_upd hB1 _ _ eA6), fun B2 hB2 => ?_⟩⟩
        rw [cut_to1] at hB2 ⊢
        rw [cut_from]
        have s7 := (same_upd (o := .lst ((W.take (a + 1)).map V.str)) hB1).trans (same_upd (o := .lst ((W.drop a).map V.str)) hB2)
        have e1 := same_upd (o := .lst ((W.drop a).map V.str)) hB2 B1 _ upd_same
        obtain ⟨d1, d2⟩ := wsum_dup ha
        refine ⟨B1, B2, _, _, rfl, rfl, e1, upd_same, ?_, fun C hC => ?_⟩
        · rw [List.length_map, List.length_map]; exact line_le (by omega)
        · rw [strs_app]
          refine fin _ C _ (s7.trans (same_upd hC)) upd_same ?_
          rw [wsum_app, List.length_append]
          omega
      · refine ⟨⟨_, rfl⟩, _, rfl, ?_⟩
        delta tNoPart tPart
        dsimp only
        refine ⟨_, rfl, (a : Nat), rfl, A, _, rfl, SqL.of eA6, fun B1 hB1 => ?_⟩
        rw [cut_to]
        dsimp only
        obtain ⟨s7, eB1, nB1, nB1c, hA7⟩ := new_facts (o := .lst ((W.take a).map V.str)) hA6 hB1 rfl
        generalize upd H6 B1 (.lst ((W.take a).map V.str)) = H7 at s7 eB1 hA7 ⊢
        have eA7 := s7 _ _ eA6
        have eO7 := s7 _ _ eO6
        have lOD : (OD.map V.str).length = 24 := by rw [List.length_map]; exact lod
        refine ⟨_, rfl, _, rfl, _, rfl, O, _, rfl, .inl (SqL.of eO7), h, c, _, rfl, hA7, by rw [lOD]; decide, by rw [lOD]; decide, fun y H8 y0 y1 hA8 b8 => ?_⟩
        rw [lOD] at y1
        obtain ⟨y, rfl⟩ := Int.eq_ofNat_of_zero_le y0
        have hy : y < OD.length := by omega
        have eA8 := b8 _ _ eA7 nA
        have eO8 := b8 _ _ eO7 nO
        have eB8 := b8 _ _ eB1 nB1
        have hlen := hod OD[y] (List.getElem_mem hy)
        refine ⟨O, _, _, .str OD[y], rfl, rfl, SqL.of eO8, atI_nat (by rw [List.getElem?_map, List.getElem?_eq_getElem hy]; rfl), by show 1 ≤ sizeLine; decide, fun B2 hB2 => ?_⟩
        have s9 := same_upd (o := .lst [V.str OD[y]]) hB2
        have e9 : (upd H8 B2 (.lst [V.str OD[y]])) B2 = some (.lst ([OD[y]].map V.str)) := upd_same
        generalize upd H8 B2 (.lst [V.str OD[y]]) = H9 at s9 e9 ⊢
        generalize OD[y] = ow at *
        refine ⟨B1, B2, _, _, rfl, rfl, s9 _ _ eB8, e9, ?_, fun B3 hB3 => ?_⟩
        · rw [List.length_map, List.length_map]; show _ + 1 ≤ _
          exact line_le (by omega)
        rw [strs_app]
        have s10 := s9.trans (same_upd (o := .lst ((W.take a ++ [ow]).map V.str)) hB3)
        have e10 : (upd H9 B3 (.lst ((W.take a ++ [ow]).map V.str))) B3 = some (.lst ((W.take a ++ [ow]).map V.str)) := upd_same
        generalize upd H9 B3 (.lst ((W.take a ++ [ow]).map V.str)) = H10 at s10 e10 ⊢
        refine ⟨_, rfl, _, rfl, _, _, rfl, rfl, _, rfl, A, _, rfl, SqL.of (s10 _ _ eA8), fun B4 hB4 => ?_⟩
        rw [cut_from1]
        have s11 := s10.trans (same_upd (o := .lst ((W.drop (a + 1)).map V.str)) hB4)
        have e11 := same_upd (o := .lst ((W.drop (a + 1)).map V.str)) hB4 _ _ e10
        refine ⟨B3, B4, _, _, rfl, rfl, e11, upd_same, ?_, fun C hC => ?_⟩
        · rw [List.length_map, List.length_map, List.length_append]; show _ + 1 + _ ≤ _
          exact line_le (by omega)
        rw [strs_app]
        have s12 := s11.trans (same_upd (o := .lst ((W.take a ++ [ow] ++ W.drop (a + 1)).map V.str)) hC)
        have hbw : wsum (W.take a ++ [ow] ++ W.drop (a + 1)) + (W.take a ++ [ow] ++ W.drop (a + 1)).length ≤ 2 * x.length + 12 := by
          rw [wsum_app, wsum_app, wsum_one, List.length_append, List.length_append, List.length_singleton]
          omega
        have hj := join_wsum " " (W.take a ++ [ow] ++ W.drop (a + 1))
        rw [l1, Nat.mul_one] at hj
        refine ⟨" ", C, W.take a ++ [ow] ++ W.drop (a + 1), rfl, rfl, .inl (SqL.of upd_same), ?_, k _ _ (hA8.mono s12) (b06.trans ((But.of s7).trans (b8.trans (But.of s12)))) (by omega)⟩
        rw [l1, Nat.mul_one]
        unfold wsum at hbw
        omega
end
end Hc


set_option Elab.async false
set_option linter.all false
set_option pp.maxSteps 900
set_option maxRecDepth 100000
set_option maxHeartbeats 4000000
set_option autoImplicit false
namespace Hc
open PySem L2
theorem sign_at {y : Int} (y0 : 0 ≤ y) (y1 : y < 11) : ∃ c, atI ("ab012 -\n\t9w" : Str).cps.toList y = some c := by
  obtain ⟨j, rfl⟩ := Int.eq_ofNat_of_zero_le y0
  have hj : j < ("ab012 -\n\t9w" : Str).cps.toList.length := by
    have : ("ab012 -\n\t9w" : Str).cps.toList.length = 11 := by decide +kernel
    omega
  exact ⟨_, atI_nat (List.getElem?_eq_getElem hj)⟩
theorem wsum_mid {W : List Str} {a : Nat} (ha : a < W.length) : wsum (W.take a) + W[a].length + wsum (W.drop (a + 1)) = wsum W := by
  have e : W = W.take a ++ (W[a] :: W.drop (a + 1)) := by rw [← List.drop_eq_getElem_cons ha, List.take_append_drop]
  conv => rhs; rw [e]
  rw [wsum_app]
  unfold wsum
  rw [List.map_cons, List.sum_cons]
  omega
section
variable {P : Program} {w : World} {K : PySem.W.Frag} {mg : Str → Option Value} {base : Heap}
def spBent : Sp := fun vs H Q _ => ∃ (h c : Addr) (x : Str), vs = [.ref h, .str x] ∧ HandAt H h c ∧ x.length ≤ 8000 ∧ ∀ y H', HandAt H' h c → But h H H' → y.length ≤ 2 * x.length + 14 → Q (.str y) H'
theorem ok__law_bent (T : Tx K mg) : FnOk P w K mg base CX0 3 T._law_bent.f T._law_bent.fd ["_law_hand_here", "_law_text"] spBent := by
  refine T._law_bent.F.ok sc_law_bent (fun vs H Q E h => ?_) (fun cdv A outer s H vs Q E hr h => ?_)
  · obtain ⟨h, c, x, rfl, _⟩ := h
    rfl
  · obtain ⟨h, c, x, rfl, hA, hx, k⟩ := h
    refine ⟨_, (pss_cons (ps_set (i := 2) sc_law_bent.nd rfl (Or.inl rfl) (pe_split (pv 1) pe_str))
      (pss_cons (ps_set (i := 3) sc_law_bent.nd rfl (Or.inl rfl) (pe_call (ok__law_draw T) (hr.mono (by decide)) rfl T._law_draw.g T._law_draw.F.kp T._law_draw.b .nil pass0 (pa_cons (pv 0) (pa_cons (pe_callB call_len_seq (by rfl) T.n_len (by decide +kernel) (pa_cons (pv 2) pa_nil)) pa_nil))))
      (pss_cons (ps_set (i := 4) sc_law_bent.nd rfl (Or.inl rfl) (pe_call (ok__law_draw T) (hr.mono (by decide)) rfl T._law_draw.g T._law_draw.F.kp T._law_draw.b .nil pass0 (pa_cons (pv 0) (pa_cons (pe_callB call_len_seq (by rfl) T.n_len (by decide +kernel) (pa_cons (pv 2) pa_nil)) pa_nil))))
      (pss_cons (ps_set (i := 5) sc_law_bent.nd rfl (Or.inl rfl) (pe_call (ok__law_draw T) (hr.mono (by decide)) rfl T._law_draw.g T._law_draw.F.kp T._law_draw.b .nil pass0 (pa_cons (pv 0) (pa_cons (pe_op op_add (pe_callB call_len_str (by rfl) T.n_len (by decide +kernel) (pa_cons (pv 1) pa_nil)) pe_int) pa_nil))))
      (pss_cons (ps_set (i := 6) sc_law_bent.nd rfl (Or.inl rfl) (pe_ix ix_str pe_str (pe_call (ok__law_draw T) (hr.mono (by decide)) rfl T._law_draw.g T._law_draw.F.kp T._law_draw.b .nil pass0 (pa_cons (pv 0) (pa_cons pe_int pa_nil))) (fun _ _ => rfl)))
      (pss_cons (ps_set (i := 7) sc_law_bent.nd rfl (Or.inl rfl) (pe_call (ok__law_draw T) (hr.mono (by decide)) rfl T._law_draw.g T._law_draw.F.kp T._law_draw.b .nil pass0 (pa_cons (pv 0) (pa_cons pe_int pa_nil))))
      (pss_cons (ps_if (pt_cmpR op_eq (pv 7) pe_int (nomark _))
      (pss_one (ps_ret (pe_join pe_str (pe_op op_cat (pe_slice sl_list (pv 2) po_none (po_some (pv 3))) (pe_slice sl_list (pv 2) (po_some (pe_op op_add (pv 3) pe_int)) po_none)))))
      pss_nil)
      (pss_cons (ps_if (pt_cmpR op_eq (pv 7) pe_int (nomark _))
      (pss_one (ps_ret (pe_join pe_str (pe_op op_cat (pe_slice sl_list (pv 2) po_none (po_some (pe_op op_add (pv 3) pe_int))) (pe_slice sl_list (pv 2) (po_some (pv 3)) po_none)))))
      pss_nil)
      (pss_cons (ps_if (pt_cmpR op_eq (pv 7) pe_int (nomark _))
      (pss_one (ps_ret (pe_join pe_str (pe_op op_cat (pe_op op_cat (pe_slice sl_list (pv 2) po_none (po_some (pv 3))) (pe_lst (pa_cons (pe_ix ix_list (pv 2) (pv 4) (fun _ _ => rfl)) pa_nil))) (pe_slice sl_list (pv 2) (po_some (pv 3)) po_none)))))
      pss_nil)
      (pss_cons (ps_if (pt_cmpR op_lt (pv 7) pe_int (nomark _))
      (pss_one (ps_ret (pe_join pe_str (pe_op op_cat (pe_op op_cat (pe_slice sl_list (pv 2) po_none (po_some (pv 3))) (pe_lst (pa_cons (pe_call (ok__law_word_bent T) (hr.mono (by decide)) rfl T._law_word_bent.g T._law_word_bent.F.kp T._law_word_bent.b .nil pass0 (pa_cons (pv 0) (pa_cons (pe_ix ix_list (pv 2) (pv 3) (fun _ _ => rfl)) pa_nil))) pa_nil))) (pe_slice sl_list (pv 2) (po_some (pe_op op_add (pv 3) pe_int)) po_none)))))
      pss_nil)
      (pss_cons (ps_if (pt_cmpR op_eq (pv 7) pe_int (nomark _))
      (pss_one (ps_ret (pe_op op_add_str (pe_slice sl_str (pv 1) po_none (po_some (pv 5))) (pe_slice sl_str (pv 1) (po_some (pe_op op_add (pv 5) pe_int)) po_none))))
      pss_nil)
      (pss_cons (ps_if (pt_cmpR op_eq (pv 7) pe_int (nomark _))
      (pss_one (ps_ret (pe_op op_add_str (pe_op op_add_str (pe_slice sl_str (pv 1) po_none (po_some (pv 5))) (pv 6)) (pe_slice sl_str (pv 1) (po_some (pv 5)) po_none))))
      pss_nil)
      (pss_cons (ps_if (pt_cmpR op_eq (pv 7) pe_int (nomark _))
      (pss_one (ps_ret (pe_op op_add_str (pe_op op_add_str (pe_slice sl_str (pv 1) po_none (po_some (pv 5))) (pv 6)) (pe_slice sl_str (pv 1) (po_some (pe_op op_add (pv 5) pe_int)) po_none))))
      pss_nil)
      (pss_one (ps_ret (pe_ix ix_list (pe_lst (pa_cons (pe_slice sl_str (pv 1) po_none (po_some (pv 5))) (pa_cons (pe_op op_add_str (pv 1) pe_str) (pa_cons (pe_op op_add_str (pv 1) pe_str) (pa_cons (pe_slice sl_str (pv 1) po_none (po_some (pe_un un_neg pe_int))) (pa_cons (pe_op op_add_str (pv 1) (pv 1)) (pa_cons pe_str (pa_cons pe_str pa_nil)))))))) (pe_call (ok__law_draw T) (hr.mono (by decide)) rfl T._law_draw.g T._law_draw.F.kp T._law_draw.b .nil pass0 (pa_cons (pv 0) (pa_cons pe_int pa_nil))) (fun _ _ => rfl))))))))))))))))), ?_⟩
    have hsum := wsum_split (x := x) tl_nl sep_nl
    have hne := split_ne (x := x) sep_nl
    refine ⟨_, rfl, ⟨_, rfl⟩, x, _, rfl, rfl, by decide +kernel, by rw [sizeLine_eq]; omega, fun A hAn => ?_⟩
    obtain ⟨s1, eA, nA, nAc, hA1⟩ := new_facts (o := .lst ((Txt.split x "\n").map V.str)) hA hAn rfl
    change gName 2 (.ref A) _ (upd H A (.lst ((Txt.split x "\n").map V.str))) _
    generalize upd H A (.lst ((Txt.split x "\n").map V.str)) = H1 at s1 eA hA1 ⊢
    generalize Txt.split x "\n" = W at *
    have hl : 0 < W.length := List.length_pos_iff.mpr hne
    have lW : (W.map V.str).length = W.length := List.length_map _
    refine ⟨_, rfl, _, rfl, A, _, rfl, .inl (SqL.of eA), h, c, _, rfl, hA1, by rw [lW]; omega, by rw [lW]; omega, fun a H2 a0 a1 hA2 b2 => ?_⟩
    rw [lW] at a1
    obtain ⟨a, rfl⟩ := Int.eq_ofNat_of_zero_le a0
    have ha : a < W.length := by omega
    have eA2 := b2 _ _ eA nA
    refine ⟨_, rfl, _, rfl, A, _, rfl, .inl (SqL.of eA2), h, c, _, rfl, hA2, by rw [lW]; omega, by rw [lW]; omega, fun o H3 o0 o1 hA3 b3 => ?_⟩
    rw [lW] at o1
    obtain ⟨o, rfl⟩ := Int.eq_ofNat_of_zero_le o0
    have ho : o < W.length := by omega
    have eA3 := b3 _ _ eA2 nA
    refine ⟨_, rfl, _, rfl, x, rfl, line_le (by omega), _, _, rfl, rfl, h, c, _, rfl, hA3, by omega, by omega, fun t H4 t0 t1 hA4 b4 => ?_⟩
    have eA4 := b4 _ _ eA3 nA
    refine ⟨_, rfl, h, c, 11, rfl, hA4, by decide, by decide, fun g H5 g0 g1 hA5 b5 => ?_⟩
    have eA5 := b5 _ _ eA4 nA
    obtain ⟨sg, hsg⟩ := sign_at g0 g1
    refine ⟨("ab012 -\n\t9w" : Str), g, sg, rfl, rfl, by decide +kernel, hsg, ?_⟩
    refine ⟨_, rfl, h, c, 11, rfl, hA5, by decide, by decide, fun kd H6 _ _ hA6 b6 => ?_⟩
    have eA6 := b6 _ _ eA5 nA
    have b06 := ((((But.of s1).trans b2).trans b3).trans (b4.trans b5)).trans b6
    clear s1 eA hA1 b2 eA2 hA2 b3 eA3 hA3 b4 eA4 hA4 b5 eA5 hA5 b6 hsg hAn
    have l1 : ("\n" : Str).length = 1 := by decide +kernel
    have fin : ∀ (H' : Hp) (p : Addr) (ys : List Str), HandAt H' h c → But h H H' → H' p = some (.lst (ys.map V.str)) → wsum ys + ys.length ≤ 2 * x.length + 14 → ∃ (a : Str) (p' : Addr) (ys' : List Str), V.str "\n" = V.str a ∧ [V.ref p] = [V.ref p'] ∧ (SqL K H' p' (ys'.map V.str) ∨ SqT K H' p' (ys'.map V.str)) ∧ (ys'.map (·.length)).sum + ys'.length * a.length ≤ 16777216 ∧ Q (.str (Txt.join a ys')) H' := by
      intro H' p ys hA' b' e hy
      have hj := join_wsum "\n" ys
      rw [l1, Nat.mul_one] at hj
      refine ⟨"\n", p, ys, rfl, rfl, .inl (SqL.of e), ?_, k _ _ hA' b' (by omega)⟩
      rw [l1, Nat.mul_one]
      unfold wsum at hy
      omega
    have finS : ∀ (y : Str), y.length ≤ 2 * x.length + 14 → Q (.str y) H6 := fun y hy => k y H6 hA6 b06 hy
    obtain ⟨c1, c2⟩ := wsum_cut W (show a ≤ a + 1 by omega)
    obtain ⟨c3, c4⟩ := wsum_cut W (Nat.le_refl a)
    obtain ⟨d1, d2⟩ := wsum_dup ha
    have hwa := wsum_mem (List.getElem_mem ha)
    have hmid := wsum_mid ha
    have hwo := wsum_mem (List.getElem_mem ho)
    refine ⟨_, rfl, rfl, _, rfl, ite2 (fun _ => ?_) (fun _ => ?_)⟩
    · refine ⟨⟨_, rfl⟩, _, rfl, ?_⟩
      delta tNoPart tPart
      dsimp only
      refine ⟨_, rfl, (a : Nat), rfl, A, _, rfl, SqL.of eA6, fun B1 hB1 => ⟨_, rfl, _, rfl, _, _, rfl, rfl, _, rfl, A, _, rfl, SqL.of (same_upd hB1 _ _ eA6), fun B2 hB2 => ?_⟩⟩
      rw [cut_to] at hB2 ⊢
      rw [cut_from1]
      have s7 := (same_upd (o := .lst ((W.take a).map V.str)) hB1).trans (same_upd (o := .lst ((W.drop (a + 1)).map V.str)) hB2)
      have e1 := same_upd (o := .lst ((W.drop (a + 1)).map V.str)) hB2 B1 _ upd_same
      refine ⟨B1, B2, _, _, rfl, rfl, e1, upd_same, ?_, fun C hC => ?_⟩
      · rw [List.length_map, List.length_map]; exact line_le (by omega)
      · rw [strs_app]
        have s8 := s7.trans (same_upd (o := .lst ((W.take a ++ W.drop (a + 1)).map V.str)) hC)
        refine fin _ C _ (hA6.mono s8) (b06.trans (But.of s8)) upd_same ?_
        rw [wsum_app, List.length_append]
        omega
    refine ⟨_, rfl, rfl, _, rfl, ite2 (fun _ => ?_) (fun _ => ?_)⟩
    · refine ⟨⟨_, rfl⟩, _, rfl, ?_⟩
      delta tNoPart tPart
      dsimp only
      refine ⟨_, rfl, _, _, rfl, rfl, _, rfl, A, _, rfl, SqL.of eA6, fun B1 hB1 => ⟨_, rfl, _, rfl, (a : Nat), rfl, A, _, rfl, SqL.of (same_upd hB1 _ _ eA6), fun B2 hB2 => ?_⟩⟩
      rw [cut_to1] at hB2 ⊢
      rw [cut_from]
      have s7 := (same_upd (o := .lst ((W.take (a + 1)).map V.str)) hB1).trans (same_upd (o := .lst ((W.drop a).map V.str)) hB2)
      have e1 := same_upd (o := .lst ((W.drop a).map V.str)) hB2 B1 _ upd_same
      refine ⟨B1, B2, _, _, rfl, rfl, e1, upd_same, ?_, fun C hC => ?_⟩
      · rw [List.length_map, List.length_map]; exact line_le (by omega)
      · rw [strs_app]
        have s8 := s7.trans (same_upd (o := .lst ((W.take (a + 1) ++ W.drop a).map V.str)) hC)
        refine fin _ C _ (hA6.mono s8) (b06.trans (But.of s8)) upd_same ?_
        rw [wsum_app, List.length_append]
        omega
    refine ⟨_, rfl, rfl, _, rfl, ite2 (fun _ => ?_) (fun _ => ?_)⟩
    · refine ⟨⟨_, rfl⟩, _, rfl, ?_⟩
      delta tNoPart tPart
      dsimp only
      refine ⟨_, rfl, (a : Nat), rfl, A, _, rfl, SqL.of eA6, fun B1 hB1 => ?_⟩
      rw [cut_to]
      dsimp only
      have s7 := same_upd (o := .lst ((W.take a).map V.str)) hB1
      have eB1 : (upd H6 B1 (.lst ((W.take a).map V.str))) B1 = some (.lst ((W.take a).map V.str)) := upd_same
      generalize upd H6 B1 (.lst ((W.take a).map V.str)) = H7 at s7 eB1 ⊢
      refine ⟨_, rfl, _, rfl, A, _, _, .str W[o], rfl, rfl, SqL.of (s7 _ _ eA6), atI_nat (by rw [List.getElem?_map, List.getElem?_eq_getElem ho]; rfl), by show 1 ≤ sizeLine; decide, fun B2 hB2 => ?_⟩
      have s9 := s7.trans (same_upd (o := .lst [V.str W[o]]) hB2)
      have eB2 := same_upd (o := .lst [V.str W[o]]) hB2 _ _ eB1
      have e9 : (upd H7 B2 (.lst [V.str W[o]])) B2 = some (.lst ([W[o]].map V.str)) := upd_same
      generalize upd H7 B2 (.lst [V.str W[o]]) = H9 at s9 eB2 e9 ⊢
      generalize W[o] = ow at *
      refine ⟨B1, B2, _, _, rfl, rfl, eB2, e9, ?_, fun B3 hB3 => ?_⟩
      · rw [List.length_map, List.length_map]; show _ + 1 ≤ _
        exact line_le (by omega)
      rw [strs_app]
      have s10 := s9.trans (same_upd (o := .lst ((W.take a ++ [ow]).map V.str)) hB3)
      have e10 : (upd H9 B3 (.lst ((W.take a ++ [ow]).map V.str))) B3 = some (.lst ((W.take a ++ [ow]).map V.str)) := upd_same
      generalize upd H9 B3 (.lst ((W.take a ++ [ow]).map V.str)) = H10 at s10 e10 ⊢
      refine ⟨_, rfl, _, rfl, (a : Nat), rfl, A, _, rfl, SqL.of (s10 _ _ eA6), fun B4 hB4 => ?_⟩
      rw [cut_from]
      have s11 := s10.trans (same_upd (o := .lst ((W.drop a).map V.str)) hB4)
      have e11 := same_upd (o := .lst ((W.drop a).map V.str)) hB4 _ _ e10
      refine ⟨B3, B4, _, _, rfl, rfl, e11, upd_same, ?_, fun C hC => ?_⟩
      · rw [List.length_map, List.length_map, List.length_append]; show _ + 1 + _ ≤ _
        exact line_le (by omega)
      rw [strs_app]
      have s12 := s11.trans (same_upd (o := .lst ((W.take a ++ [ow] ++ W.drop a).map V.str)) hC)
      refine fin _ C _ (hA6.mono s12) (b06.trans (But.of s12)) upd_same ?_
      rw [wsum_app, wsum_app, wsum_one, List.length_append, List.length_append, List.length_singleton]
      omega
    refine ⟨_, rfl, _, _, rfl, rfl, _, rfl, ite2 (fun _ => ?_) (fun _ => ?_)⟩
    · refine ⟨⟨_, rfl⟩, _, rfl, ?_⟩
      delta tNoPart tPart
      dsimp only
      refine ⟨_, rfl, (a : Nat), rfl, A, _, rfl, SqL.of eA6, fun B1 hB1 => ?_⟩
      rw [cut_to]
      dsimp only
      obtain ⟨s7, eB1, nB1, nB1c, hA7⟩ := new_facts (o := .lst ((W.take a).map V.str)) hA6 hB1 rfl
      generalize upd H6 B1 (.lst ((W.take a).map V.str)) = H7 at s7 eB1 hA7 ⊢
      have hwx : W[a].length ≤ 9000 := by omega
      refine ⟨_, rfl, _, rfl, _, rfl, A, _, _, .str W[a], rfl, rfl, SqL.of (s7 _ _ eA6), atI_nat (by rw [List.getElem?_map, List.getElem?_eq_getElem ha]; rfl), h, c, W[a], rfl, hA7, hwx, fun ow H8 hA8 b8 how => ⟨by show 1 ≤ sizeLine; decide, fun B2 hB2 => ?_⟩⟩
      have eB8 := b8 _ _ eB1 nB1
      have eA8 := b8 _ _ (s7 _ _ eA6) nA
      have s9 := same_upd (o := .lst [V.str ow]) hB2
      have eB2 := same_upd (o := .lst [V.str ow]) hB2 _ _ eB8
      have e9 : (upd H8 B2 (.lst [V.str ow])) B2 = some (.lst ([ow].map V.str)) := upd_same
      generalize upd H8 B2 (.lst [V.str ow]) = H9 at s9 eB2 e9 ⊢
      refine ⟨B1, B2, _, _, rfl, rfl, eB2, e9, ?_, fun B3 hB3 => ?_⟩
      · rw [List.length_map, List.length_map]; show _ + 1 ≤ _
        exact line_le (by omega)
      rw [strs_app]
      have s10 := s9.trans (same_upd (o := .lst ((W.take a ++ [ow]).map V.str)) hB3)
      have e10 : (upd H9 B3 (.lst ((W.take a ++ [ow]).map V.str))) B3 = some (.lst ((W.take a ++ [ow]).map V.str)) := upd_same
      generalize upd H9 B3 (.lst ((W.take a ++ [ow]).map V.str)) = H10 at s10 e10 ⊢
      refine ⟨_, rfl, _, rfl, _, _, rfl, rfl, _, rfl, A, _, rfl, SqL.of (s10 _ _ eA8), fun B4 hB4 => ?_⟩
      rw [cut_from1]
      have s11 := s10.trans (same_upd (o := .lst ((W.drop (a + 1)).map V.str)) hB4)
      have e11 := same_upd (o := .lst ((W.drop (a + 1)).map V.str)) hB4 _ _ e10
      refine ⟨B3, B4, _, _, rfl, rfl, e11, upd_same, ?_, fun C hC => ?_⟩
      · rw [List.length_map, List.length_map, List.length_append]; show _ + 1 + _ ≤ _
        exact line_le (by omega)
      rw [strs_app]
      have s12 := s11.trans (same_upd (o := .lst ((W.take a ++ [ow] ++ W.drop (a + 1)).map V.str)) hC)
      refine fin _ C _ (hA8.mono s12) (b06.trans ((But.of s7).trans (b8.trans (But.of s12)))) upd_same ?_
      rw [wsum_app, wsum_app, wsum_one, List.length_append, List.length_append, List.length_singleton]
      omega
    have lsg : ({ cps := #[sg] } : Str).length = 1 := rfl
    have cl := fun lo hi => cutS_len x lo hi
    have c2a := cutS_two x t0 (Int.le_refl t)
    have c2b := cutS_two x t0 (show t ≤ t + 1 by omega)
    refine ⟨_, rfl, rfl, _, rfl, ite2 (fun _ => ?_) (fun _ => ?_)⟩
    · refine ⟨_, rfl, ?_⟩
      delta tNoPart tPart
      dsimp only
      refine ⟨_, rfl, t, rfl, x, rfl, line_le (by omega), ?_⟩
      refine ⟨_, rfl, _, rfl, _, _, rfl, rfl, _, rfl, x, rfl, line_le (by omega), ?_⟩
      refine ⟨_, _, rfl, rfl, line_le (by omega), finS _ ?_⟩
      rw [len_app]
      omega
    refine ⟨_, rfl, rfl, _, rfl, ite2 (fun _ => ?_) (fun _ => ?_)⟩
    · refine ⟨_, rfl, ?_⟩
      delta tNoPart tPart
      dsimp only
      refine ⟨_, rfl, t, rfl, x, rfl, line_le (by omega), _, rfl, ?_⟩
      refine ⟨_, _, rfl, rfl, line_le (by omega), ?_⟩
      refine ⟨_, rfl, _, rfl, t, rfl, x, rfl, line_le (by omega), ?_⟩
      refine ⟨_, _, rfl, rfl, line_le (by rw [len_app]; omega), finS _ ?_⟩
      rw [len_app, len_app]
      omega
    refine ⟨_, rfl, rfl, _, rfl, ite2 (fun _ => ?_) (fun _ => ?_)⟩
    · refine ⟨_, rfl, ?_⟩
      delta tNoPart tPart
      dsimp only
      refine ⟨_, rfl, t, rfl, x, rfl, line_le (by omega), _, rfl, ?_⟩
      refine ⟨_, _, rfl, rfl, line_le (by omega), ?_⟩
      refine ⟨_, rfl, _, rfl, _, _, rfl, rfl, _, rfl, x, rfl, line_le (by omega), ?_⟩
      refine ⟨_, _, rfl, rfl, line_le (by rw [len_app]; omega), finS _ ?_⟩
      rw [len_app, len_app]
      omega
    refine ⟨_, rfl, ?_⟩
    delta tNoPart tPart
    dsimp only
    have ln : ("\n" : Str).length = 1 := by decide +kernel
    have ls : (" " : Str).length = 1 := by decide +kernel
    refine ⟨_, rfl, t, rfl, x, rfl, line_le (by omega), ?_⟩
    refine ⟨_, rfl, _, _, rfl, rfl, line_le (by omega), ?_⟩
    refine ⟨_, rfl, _, _, rfl, rfl, line_le (by omega), ?_⟩
    refine ⟨_, rfl, _, rfl, _, rfl, x, rfl, line_le (by omega), ?_⟩
    refine ⟨_, rfl, _, rfl, _, _, rfl, rfl, line_le (by omega), ?_⟩
    refine ⟨by show 7 ≤ sizeLine; decide, fun O hO => ?_⟩
    have eOD : [V.str (cutS x none (some t)), V.str (x ++ "\n"), V.str (x ++ " "), V.str (cutS x none (some (-1))), V.str (x ++ x), V.str (""), V.str ("\n")] = [cutS x none (some t), x ++ "\n", x ++ " ", cutS x none (some (-1)), x ++ x, "", "\n"].map V.str := rfl
    have hod : ∀ y ∈ [cutS x none (some t), x ++ "\n", x ++ " ", cutS x none (some (-1)), x ++ x, "", "\n"], y.length ≤ 2 * x.length + 1 := by
      intro y hy
      have c1 := cl none (some t)
      have c2 := cl none (some (-1))
      have l0 : ("" : Str).length = 0 := by decide +kernel
      simp only [List.mem_cons, List.not_mem_nil, or_false] at hy
      rcases hy with rfl | rfl | rfl | rfl | rfl | rfl | rfl
      · omega
      · rw [len_app]; omega
      · rw [len_app]; omega
      · omega
      · rw [len_app]; omega
      · omega
      · omega
    have lod : [cutS x none (some t), x ++ "\n", x ++ " ", cutS x none (some (-1)), x ++ x, "", "\n"].length = 7 := rfl
    rw [eOD]
    clear eOD
    generalize [cutS x none (some t), x ++ "\n", x ++ " ", cutS x none (some (-1)), x ++ x, "", "\n"] = OD at hod lod ⊢
    obtain ⟨s7, eO, nO, nOc, hA7⟩ := new_facts (o := .lst (OD.map V.str)) hA6 hO rfl
    refine ⟨_, rfl, h, c, 7, rfl, hA7, by decide, by decide, fun y H8 y0 y1 hA8 b8 => ?_⟩
    obtain ⟨y, rfl⟩ := Int.eq_ofNat_of_zero_le y0
    have hy : y < OD.length := by omega
    have hl8 := hod OD[y] (List.getElem_mem hy)
    refine ⟨O, _, _, .str OD[y], rfl, rfl, SqL.of (b8 _ _ eO nO), atI_nat (by rw [List.getElem?_map, List.getElem?_eq_getElem hy]; rfl), ?_⟩
    exact k _ _ hA8 (b06.trans ((But.of s7).trans b8)) (by omega)
end
end Hc


set_option Elab.async false
set_option linter.all false
set_option pp.maxSteps 900
set_option maxRecDepth 100000
set_option maxHeartbeats 4000000
set_option autoImplicit false
namespace Hc
open PySem L2
/-! ### answers as data -/
def lsP (p : List Int) : PyData := .list (p.map PyData.int)
def resP : Res → PyData
  | .text k => .tuple [.str "text", .int k]
  | .web p => .tuple [.str "web", .str p]
  | .day p => .tuple [.str "day", .str p]
  | .told n qs ms => .tuple [.str "told", .list [.int n, .list (qs.map lsP), .list (ms.map lsP)]]
theorem lay_intsQ : ∀ p : List Int, PyData.canLayAll0 (p.map PyData.int) = true ∧ PyData.depthAll (p.map PyData.int) ≤ 1
  | [] => ⟨rfl, Nat.zero_le _⟩
  | x :: p => by
    obtain ⟨h1, h2⟩ := lay_intsQ p
    refine ⟨?_, ?_⟩
    · show (true && PyData.canLayAll0 (p.map PyData.int)) = true
      rw [h1]; rfl
    · show max (PyData.depth (.int x)) (PyData.depthAll (p.map PyData.int)) ≤ 1
      have : PyData.depth (.int x) ≤ 1 := by simp [PyData.depth]
      omega
theorem lay_lsQ : ∀ L : List (List Int), PyData.canLayAll0 (L.map lsP) = true ∧ PyData.depthAll (L.map lsP) ≤ 2
  | [] => ⟨rfl, Nat.zero_le _⟩
  | x :: p => by
    obtain ⟨h1, h2⟩ := lay_lsQ p
    obtain ⟨h3, h4⟩ := lay_intsQ x
    refine ⟨?_, ?_⟩
    · show (PyData.canLayAll0 (x.map PyData.int) && PyData.canLayAll0 (p.map lsP)) = true
      rw [h1, h3]; rfl
    · show max (PyData.depthAll (x.map PyData.int) + 1) (PyData.depthAll (p.map lsP)) ≤ 2
      omega
theorem part_of {n : Int} {qs : List (List Int)} : partL n qs ∈ (["houses", "roads", "rooms", "times", "let"] : List Str) := by
  unfold partL
  split
  · simp
  split
  · simp
  split
  · simp
  split <;> simp
def GoodR (r : Res) : Prop := PyData.canLay0 (resP r) = true ∧ SeqAt.shaped (resP r) = true
theorem good_text (k : Int) : GoodR (.text k) := by
  have d : PyData.depth (.int k) ≤ 1 := by simp [PyData.depth]
  have hs : PyData.canLay0 (.str "text") = true := by decide +kernel
  have c : PyData.canLay0 (resP (.text k)) = true := by
    show (PyData.canLay0 (.str "text") && (true && true)) = true
    rw [hs]; rfl
  refine ⟨c, ?_⟩
  show (PyData.canLay0 (resP (.text k)) && decide (PyData.depth (resP (.text k)) ≤ 64)) = true
  rw [c]
  rfl
theorem good_told (n : Int) (qs ms : List (List Int)) : GoodR (.told n qs ms) := by
  obtain ⟨h1, h2⟩ := lay_lsQ qs
  obtain ⟨g1, g2⟩ := lay_lsQ ms
  have c : PyData.canLay0 (resP (.told n qs ms)) = true := by
    have hs : PyData.canLay0 (.str "told") = true := by decide +kernel
    show (PyData.canLay0 (.str "told") && ((true && (PyData.canLayAll0 (qs.map lsP) && (PyData.canLayAll0 (ms.map lsP) && true))) && true)) = true
    rw [h1, g1, hs]; rfl
  refine ⟨c, ?_⟩
  show (PyData.canLay0 (resP (.told n qs ms)) && decide (PyData.depth (resP (.told n qs ms)) ≤ 64)) = true
  have e : PyData.depth (resP (.told n qs ms)) ≤ 64 := by
    show max (PyData.depth (.str "told")) (max (PyData.depthAll [.int n, .list (qs.map lsP), .list (ms.map lsP)] + 1) 0) + 1 ≤ 64
    have a : PyData.depthAll [.int n, .list (qs.map lsP), .list (ms.map lsP)] ≤ 3 := by
      show max (PyData.depth (.int n)) (max (PyData.depthAll (qs.map lsP) + 1) (max (PyData.depthAll (ms.map lsP) + 1) 0)) ≤ 3
      have : PyData.depth (.int n) ≤ 1 := by simp [PyData.depth]
      omega
    have : PyData.depth (.str "told") ≤ 1 := by simp [PyData.depth]
    omega
  rw [c, decide_eq_true e]; rfl
theorem good_web {p : Str} (h : p ∈ (["houses", "roads", "rooms", "times", "let"] : List Str)) : GoodR (.web p) := by
  simp only [List.mem_cons, List.not_mem_nil, or_false] at h
  rcases h with rfl | rfl | rfl | rfl | rfl <;> exact ⟨by decide +kernel, by decide +kernel⟩
theorem due_in {rds : List D} {rm tm : List Int} {d2 d3 : D} {p : Str} (h : DueD rds rm tm d2 d3 p) : p ∈ (["letters", "hours", "early", "full"] : List Str) := by
  cases h <;> simp
theorem good_day {p : Str} (h : p ∈ (["letters", "hours", "early", "full"] : List Str)) : GoodR (.day p) := by
  simp only [List.mem_cons, List.not_mem_nil, or_false] at h
  rcases h with rfl | rfl | rfl | rfl <;> exact ⟨by decide +kernel, by decide +kernel⟩
theorem ResIs.good {x : Str} {r : Res} (a : ResIs x r) : GoodR r := by
  cases a with
  | text _ => exact good_text _
  | told _ _ _ _ => exact good_told _ _ _
  | day _ _ _ h4 => exact good_day (due_in h4)
  | web h1 h2 h3 =>
    have pd := part_due (n := headN x) (rows_one h1 h2) (fun q hq => ⟨nums_pos q hq 0, nums_pos q hq 1⟩)
    rw [pd] at h3
    split at h3
    · cases h3
    · rw [← Option.some.inj h3]
      exact good_web part_of
section
variable {K : PySem.W.Frag} {H : Hp}
theorem dpi : ∀ p : List Int, DpAll K H (p.map V.int) (p.map PyData.int)
  | [] => .nil
  | x :: p => .cons (.int x) (dpi p)
theorem dpl : ∀ {vs : List V} {qs : List (List Int)}, vs.length = qs.length → (∀ (i : Nat) (v : V) (q : List Int), vs[i]? = some v → qs[i]? = some q → ∃ l, v = .ref l ∧ H l = some (.lst (q.map V.int))) → DpAll K H vs (qs.map lsP)
  | [], [], _, _ => .nil
  | [], _ :: _, h, _ => by simp at h
  | _ :: _, [], h, _ => by simp at h
  | v :: vs, q :: qs, h, k => by
    obtain ⟨l, rfl, e⟩ := k 0 v q rfl rfl
    exact .cons (.lst (SqL.of e) (dpi q)) (dpl (by simpa using h) fun i v q a b => k (i + 1) v q a b)
theorem ResAt.dp {v : V} {r : Res} (x : ResAt H v r) : Dp K H v (resP r) := by
  cases r with
  | text k => obtain ⟨q, rfl, e⟩ := x; exact .tup (SqT.of e) (.cons (.str _) (.cons (.int k) .nil))
  | web p => obtain ⟨q, rfl, e⟩ := x; exact .tup (SqT.of e) (.cons (.str _) (.cons (.str p) .nil))
  | day p => obtain ⟨q, rfl, e⟩ := x; exact .tup (SqT.of e) (.cons (.str _) (.cons (.str p) .nil))
  | told n qs ms =>
    obtain ⟨q, L, R, S, rfl, e, eL, ⟨vs, eR, lv, hv⟩, ⟨ws, eS, lw, hw⟩⟩ := x
    exact .tup (SqT.of e) (.cons (.str _) (.cons (.lst (SqL.of eL) (.cons (.int n) (.cons (.lst (SqL.of eR) (dpl lv hv)) (.cons (.lst (SqL.of eS) (dpl lw hw)) .nil)))) .nil))
theorem ne_res {v v' : V} {r : Res} {Q : VK} (a : ResAt H v r) (b : ResAt H v' r) (g : GoodR r) (k : Q (.bl false) H) : rNeD K v v' H Q := by
  refine ⟨_, _, a.dp, b.dp, g.2, g.2, ?_⟩
  rw [PySem.SeqAt.eqv_refl _ g.1]
  exact k
theorem eq_res {v v' : V} {r : Res} {Q : VK} (a : ResAt H v r) (b : ResAt H v' r) (g : GoodR r) (k : Q (.bl true) H) : rEqD K v v' H Q := by
  refine ⟨_, _, a.dp, b.dp, g.2, g.2, ?_⟩
  rw [PySem.SeqAt.eqv_refl _ g.1]
  exact k
end
/-! ### the texts -/
theorem webS_len {n : Int} {rds : List D} {rm tm : List Int} (p : PartsOk n rds rm tm) (h8 : rds.length ≤ 8) : (webS n rds rm tm).length ≤ 549 := by
  have h := closed_len (m := 9) (webLs_short p).1 (by unfold webLs; rw [List.length_cons, List.length_map, List.length_range]; omega)
  exact h
theorem bad_empty : BadAt W3 "" 1 := by
  have e1 : linesOf "" = [("" : Str)] := by decide +kernel
  have e2 : bodyOf "" = [] := by unfold bodyOf; rw [e1]; rfl
  have : BadAt W3 "" ((linesOf "").length : Nat) := .fin (fun i hi => by rw [e2] at hi; simp at hi) (fun z => by
    have h2 := z.2
    rw [e2] at h2
    exact absurd (show ("" : Str) ∈ ([("road" : Str), "letter"] : List Str) from h2) (by decide +kernel))
  rw [e1] at this
  exact this
theorem dayS_len5 {n : Int} {rds : List D} {rm tm : List Int} {ls : List Lt} {rows : List (List Int)} (p : PartsOk n rds rm tm) (o : LsOk rds ls) (ln : LenOk ls rows) (hr : ∀ r ∈ rows, ∀ x ∈ r, NumR x) (h5 : ls.length ≤ 5) (h8 : rds.length ≤ 8) : (dayS n rds rm tm ls rows).length ≤ 1704 := by
  have c1 := webS_len p h8
  have c2 : (closedS (lineLs ls rows)).length ≤ (230 + 1) * 5 := closed_len (fun l hl => by
    unfold lineLs at hl
    obtain ⟨⟨l1, r1⟩, hm, rfl⟩ := List.mem_map.mp hl
    obtain ⟨i, hi, e⟩ := List.mem_iff_getElem.mp hm
    have ez : (ls.zip rows)[i]? = some (l1, r1) := by rw [List.getElem?_eq_getElem hi, e]
    rw [List.getElem?_zip_eq_some] at ez
    obtain ⟨o1, o2, o3, _, o5, o6⟩ := o.h l1 (List.mem_of_getElem? ez.1)
    have w2 := p.l2
    exact lineS_short (ln.2 i _ _ ez.1 ez.2) o2 ⟨Int.le_trans (by decide) o5, Int.lt_of_le_of_lt o6 (by decide)⟩ (fun j hj => by have := o3 j hj; omega) (fun z hz => (hr _ (List.mem_of_getElem? ez.2) z hz).o)) (by unfold lineLs; rw [List.length_map, List.length_zip]; omega)
  unfold dayS
  rw [len_app]
  omega
theorem hr_facts {rm tm : List Int} {rds : List D} {ls : List Lt} {rows : List (List Int)} (p : HrOk rm tm ls rows) (o : LsOk rds ls) (ht : ∀ y ∈ tm, 0 ≤ y) : LenOk ls rows ∧ ∀ r ∈ rows, ∀ x ∈ r, NumR x := by
  have lr := p.len
  refine ⟨⟨lr, fun k l r e1 e2 => (p.one k l r e1 e2).1⟩, fun r hr' x hx => ?_⟩
  obtain ⟨k, hk, ek⟩ := List.mem_iff_getElem.mp hr'
  have hk2 : k < ls.length := by omega
  obtain ⟨_, ea⟩ := p.one k ls[k] r (List.getElem?_eq_getElem hk2) (by rw [List.getElem?_eq_getElem hk, ek])
  obtain ⟨j, hj, ej⟩ := List.mem_iff_getElem.mp hx
  have o5 := (o.h ls[k] (List.getElem_mem hk2)).2.2.2.2.1
  have h0 := early_pos ea ht (by omega) j hj
  rw [List.getD_eq_getElem?_getD, List.getElem?_eq_getElem hj, ej] at h0
  have h0 : 0 ≤ x := h0
  have := p.mx r hr' x hx
  exact ⟨h0, by omega⟩
section
variable {P : Program} {w : World} {K : PySem.W.Frag} {mg : Str → Option Value} {base : Heap}
def spDayT : Sp := fun vs H Q _ => ∃ (h c : Addr) (m : Int), vs = [.ref h, .int 6, .int 8, .int m, .int 6] ∧ HandAt H h c ∧ 1 ≤ m ∧ m ≤ 5 ∧
  ∀ p vw vl vh n rds rm tm ls rows H', HandAt H' h c → But h H H' → H' p = some (.tup [vw, vl, vh]) → WebF H' h vw n rds rm tm → Rp H' h vl (ltsD ls) → Rp H' h vh (rowsD rows) → ls.length ≤ 5 → LsOk rds ls → HrOk rm tm ls rows → rds.length ≤ 8 → Q (.ref p) H'
theorem ok__law_day (T : Tx K mg) : FnOk P w K mg base CX0 4 T._law_day.f T._law_day.fd ["_law_hand_here", "_law_towns", "_law_most", "_law_many", "_law_span"] spDayT := by
  refine T._law_day.F.ok sc_law_day (fun vs H Q E h => ?_) (fun cdv A outer s H vs Q E hr h => ?_)
  · obtain ⟨_, _, _, rfl, _⟩ := h
    rfl
  · obtain ⟨h, c, m, rfl, hA, hm0, hm, k⟩ := h
    refine ⟨_, (pss_cons (ps_set (i := 5) sc_law_day.nd rfl (Or.inl rfl) (pe_call (ok__law_web T) (hr.mono (by decide)) rfl T._law_web.g T._law_web.F.kp T._law_web.b .nil pass0 (pa_cons (pv 0) (pa_cons (pv 1) (pa_cons (pv 2) pa_nil)))))
      (pss_cons (ps_set (i := 6) sc_law_day.nd rfl (Or.inl rfl) (pe_call (ok__law_letters T) (hr.mono (by decide)) rfl T._law_letters.g T._law_letters.F.kp T._law_letters.b .nil pass0 (pa_cons (pv 0) (pa_cons (pv 5) (pa_cons (pv 3) (pa_cons (pv 4) pa_nil))))))
      (pss_one (ps_ret (pe_tup (pa_cons (pv 5) (pa_cons (pv 6) (pa_cons (pe_call (ok__law_hours T) (hr.mono (by decide)) rfl T._law_hours.g T._law_hours.F.kp T._law_hours.b .nil pass0 (pa_cons (pv 0) (pa_cons (pv 5) (pa_cons (pv 6) pa_nil)))) pa_nil)))))))), ?_⟩
    obtain ⟨m, rfl⟩ := Int.eq_ofNat_of_zero_le (show 0 ≤ m by omega)
    refine ⟨_, rfl, _, rfl, _, rfl, h, c, 6, 8, rfl, hA, by decide, by decide, by decide, by decide, fun v d H1 p1 b1 r1 w1 => ?_⟩
    obtain ⟨n, rds, rm, tm, W1, m5⟩ := webF_of r1 w1 (by decide) (by decide)
    refine ⟨_, rfl, _, rfl, _, rfl, _, rfl, h, c, v, n, rds, m, 6, rfl, p1, W1.w, by omega, by decide, by decide, fun vl ls H3 p3 b3 r3 l3 o3 z3 => ?_⟩
    have W3 := W1.nl (b3.nl p1.lst)
    have wt : wTot ls ≤ 120 := by
      have := wTot_le (k := 5) fun l hl => (z3 l hl).1
      omega
    refine ⟨_, rfl, _, rfl, _, rfl, _, rfl, _, rfl, h, c, v, vl, n, rds, rm, tm, ls, rfl, p3, W3, r3, o3, by omega, fun l hl => (by have := (z3 l hl).2; omega), by omega, fun vh rows H5 p5 b5 rh ok => ?_⟩
    have n5 := b5.nl p3.lst
    refine ⟨by show 3 ≤ sizeLine; decide, fun q hq => ?_⟩
    have s6 : Same H5 (upd H5 q (.tup [v, vl, vh])) := same_upd hq
    exact k q v vl vh n rds rm tm ls rows _ (p5.mono s6) (b1.trans (b3.trans (b5.trans (But.of s6)))) upd_same ((W3.nl n5).nl (NL.of s6)) ((r3.nl n5 (noL_lts ls)).same s6) (rh.same s6) (by omega) o3 ok (by omega)
end
end Hc


set_option Elab.async false
set_option linter.all false
set_option pp.maxSteps 900
set_option maxRecDepth 100000
set_option maxHeartbeats 4000000
set_option autoImplicit false
namespace Hc
open PySem L2
section
variable {P : Program} {w : World} {K : PySem.W.Frag} {mg : Str → Option Value} {base : Heap}
def spLaw (K : PySem.W.Frag) : Sp := fun vs H Q _ => ∃ (a : Addr) (ns : List Int), vs = [.ref a] ∧ SqL K H a (ns.map V.int) ∧ ns.length ≤ 63 ∧ ∀ H', Q (.bl true) H'
theorem ok_law (T : Tx K mg) (hB : BehF K mg w) : FnOk P w K mg base CX0 14 T.law.f T.law.fd ["_law_script"] (spLaw K) := by
  refine T.law.F.ok sc_law (fun vs H Q E h => ?_) (fun cdv A outer s H vs Q E hr h => ?_)
  · obtain ⟨a, ns, rfl, _⟩ := h
    rfl
  · obtain ⟨a, ns, rfl, hS, hl, kq⟩ := h
    refine ⟨_, (pss_cons (ps_set (i := 1) sc_law.nd rfl (Or.inl rfl) (pe_call (ok__law_hand T) (hr.mono (by decide)) rfl T._law_hand.g T._law_hand.F.kp T._law_hand.b .nil pass0 (pa_cons (pv 0) pa_nil)))
      (pss_cons (ps_asg (pe_call (ok__law_day T) (hr.mono (by decide)) rfl T._law_day.g T._law_day.F.kp T._law_day.b .nil pass0 (pa_cons (pv 1) (pa_cons pe_int (pa_cons pe_int (pa_cons (pe_op op_add pe_int (pe_call (ok__law_draw T) (hr.mono (by decide)) rfl T._law_draw.g T._law_draw.F.kp T._law_draw.b .nil pass0 (pa_cons (pv 1) (pa_cons pe_int pa_nil)))) (pa_cons pe_int pa_nil)))))) (pg_tup (by rfl) (pgs_cons (pg_name (i := 2) sc_law.nd rfl (Or.inl rfl)) (pgs_cons (pg_name (i := 3) sc_law.nd rfl (Or.inl rfl)) (pgs_cons (pg_name (i := 4) sc_law.nd rfl (Or.inl rfl)) pgs_nil)))))
      (pss_cons (ps_set (i := 5) sc_law.nd rfl (Or.inl rfl) (pe_call (ok__law_day_text T) (hr.mono (by decide)) rfl T._law_day_text.g T._law_day_text.F.kp T._law_day_text.b .nil pass0 (pa_cons (pv 2) (pa_cons (pv 3) (pa_cons (pv 4) pa_nil)))))
      (pss_cons (ps_if (pt_cmpR (op_neD hr.units) (pe_call (ok__law_asked T hB) (hr.mono (by decide)) rfl T._law_asked.g T._law_asked.F.kp T._law_asked.b .nil pass0 (pa_cons (pv 5) pa_nil)) (pe_call (ok__law_due T) (hr.mono (by decide)) rfl T._law_due.g T._law_due.F.kp T._law_due.b .nil pass0 (pa_cons (pv 5) pa_nil)) (nomark _))
      (pss_one (ps_ret pe_bl))
      pss_nil)
      (pss_cons (ps_for PassesOwn.never rfl (pi_range1 (by rfl) T.n_range (pa_cons pe_int pa_nil)) (pg_name (i := 6) sc_law.nd rfl (Or.inl rfl))
      (pss_cons (ps_set (i := 7) sc_law.nd rfl (Or.inl rfl) (pe_call (ok__law_bent T) (hr.mono (by decide)) rfl T._law_bent.g T._law_bent.F.kp T._law_bent.b .nil pass0 (pa_cons (pv 1) (pa_cons (pv 5) pa_nil))))
      (pss_cons (ps_for PassesOwn.never rfl (pi_range1 (by rfl) T.n_range (pa_cons (pe_call (ok__law_draw T) (hr.mono (by decide)) rfl T._law_draw.g T._law_draw.F.kp T._law_draw.b .nil pass0 (pa_cons (pv 1) (pa_cons pe_int pa_nil))) pa_nil)) (pg_name (i := 8) sc_law.nd rfl (Or.inl rfl))
      (pss_one (ps_set (i := 7) sc_law.nd rfl (Or.inl rfl) (pe_call (ok__law_bent T) (hr.mono (by decide)) rfl T._law_bent.g T._law_bent.F.kp T._law_bent.b .nil pass0 (pa_cons (pv 1) (pa_cons (pv 7) pa_nil))))))
      (pss_one (ps_if (pt_cmpR (op_neD hr.units) (pe_call (ok__law_asked T hB) (hr.mono (by decide)) rfl T._law_asked.g T._law_asked.F.kp T._law_asked.b .nil pass0 (pa_cons (pv 7) pa_nil)) (pe_call (ok__law_due T) (hr.mono (by decide)) rfl T._law_due.g T._law_due.F.kp T._law_due.b .nil pass0 (pa_cons (pv 7) pa_nil)) (nomark _))
      (pss_one (ps_ret pe_bl))
      pss_nil)))))
      (pss_cons (ps_for PassesOwn.never rfl (pi_list (pe_lst (pa_cons pe_non (pa_cons pe_int (pa_cons pe_bl (pa_cons (pe_lst (pa_cons (pv 5) pa_nil)) (pa_cons (pe_tup (pa_cons (pv 5) pa_nil)) (pa_cons pe_dnewK (pa_cons (pe_tup (pa_cons pe_str (pa_cons pe_str pa_nil))) pa_nil))))))))) (pg_name (i := 9) sc_law.nd rfl (Or.inl rfl))
      (pss_one (ps_if (pt_cmpR (op_neD hr.units) (pe_call (ok__law_asked T hB) (hr.mono (by decide)) rfl T._law_asked.g T._law_asked.F.kp T._law_asked.b .nil pass0 (pa_cons (pv 9) pa_nil)) (pe_tup (pa_cons pe_str (pa_cons pe_int pa_nil))) (nomark _))
      (pss_one (ps_ret pe_bl))
      pss_nil)))
      (pss_one (ps_ret (pe_and (pe_cmpR (op_eqD hr.units) (pe_call (ok__law_asked T hB) (hr.mono (by decide)) rfl T._law_asked.g T._law_asked.F.kp T._law_asked.b .nil pass0 (pa_cons pe_str pa_nil)) (pe_tup (pa_cons pe_str (pa_cons pe_int pa_nil))) (nomark _)) (pe_one (pe_cmpR (op_eqD hr.units) (pe_call (ok__law_asked T hB) (hr.mono (by decide)) rfl T._law_asked.g T._law_asked.F.kp T._law_asked.b .nil pass0 (pa_cons (pv 5) pa_nil)) (pe_call (ok__law_due T) (hr.mono (by decide)) rfl T._law_due.g T._law_due.F.kp T._law_due.b .nil pass0 (pa_cons (pv 5) pa_nil)) (nomark _)))))))))))), ?_⟩
    refine ⟨_, rfl, a, ns, rfl, hS, hl, fun h c H0 s0 p0 => ?_⟩
    clear hS hl s0
    refine ⟨_, rfl, _, rfl, h, c, 5, rfl, p0, by decide, by decide, fun y H1 y0 y1 p1 b1 => ⟨_, _, rfl, rfl, h, c, 1 + y, rfl, p1, by omega, by omega, fun q vw vl vh n rds rm tm ls rows H2 p2 b2 eq W rl rh l5 oo ho l8 => ?_⟩⟩
    have PP := W.p
    obtain ⟨lno, num⟩ := hr_facts ho oo (fun y hy => by have := PP.bt y hy; omega)
    have lw := dayS_len5 PP oo lno num l5 l8
    refine ⟨q, _, rfl, SqT.of eq, rfl, ?_⟩
    refine ⟨_, _, rfl, _, _, rfl, _, _, rfl, rfl, ?_⟩
    refine ⟨_, rfl, _, rfl, _, rfl, h, vw, vl, vh, n, rds, rm, tm, ls, rows, rfl, W, rl, rh, oo, lno, by omega, num, fun H3 s3 => ?_⟩
    have p3 := p2.mono s3
    generalize dayS n rds rm tm ls rows = x at lw ⊢
    clear p2 b2 eq W s3 b1 p1 p0 rl rh
    refine ⟨_, rfl, .inl ⟨_, rfl, by omega, fun v r H4 s4 A4 I4 => ⟨_, rfl, _, rfl, by omega, fun v' r' H5 s5 A5 I5 => ?_⟩⟩⟩
    obtain rfl := I4.one I5
    refine ne_res (A4.same s5) A5 I4.good ⟨_, rfl, iteF ?_⟩
    have p5 := (p3.mono s4).mono s5
    clear A4 A5 I4 I5 p3 s4 s5
    refine ⟨5, rfl, by decide, by decide, for_range (lo := 0) (n := 5) (fun i σ' H' => ∃ (o6 o7 o8 : Option V), σ' = [some (.ref a), some (.ref h), some vw, some vl, some vh, some (.str x), o6, o7, o8, none] ∧ HandAt H' h c ∧ But h H5 H')
      ⟨_, _, _, rfl, p5, But.refl _ _⟩ ?_ ?_⟩
    · rintro i σ' H6 _ ⟨o6, o7, o8, rfl, p6, b6⟩
      refine ⟨_, rfl, _, rfl, h, c, x, rfl, p6, by omega, fun y H7 p7 b7 hy => ?_⟩
      refine ⟨_, rfl, h, c, 2, rfl, p7, by decide, by decide, fun d H8 d0 d1 p8 b8 => ⟨d, rfl, by omega, by omega, ?_⟩⟩
      refine for_range (lo := 0) (n := d.toNat) (fun j σ' H' => ∃ (o8' : Option V) (y' : Str), σ' = [some (.ref a), some (.ref h), some vw, some vl, some vh, some (.str x), some (.int (0 + (i : Nat))), some (.str y'), o8', none] ∧ HandAt H' h c ∧ But h H5 H' ∧ (j = 0 → y'.length ≤ 3422) ∧ y'.length ≤ 6858)
        ⟨_, y, rfl, p8, (b6.trans b7).trans b8, fun _ => by omega, by omega⟩ ?_ ?_
      · rintro j σ' H9 hj ⟨o8', y', rfl, p9, b9, l0, l1⟩
        have hj0 : j = 0 := by omega
        have l0 := l0 hj0
        refine ⟨_, rfl, _, rfl, h, c, y', rfl, p9, by omega, fun z H10 p10 b10 hz => ?_⟩
        exact ⟨_, z, rfl, p10, b9.trans b10, fun e => by omega, by omega⟩
      · rintro σ' H9 ⟨o8', y', rfl, p9, b9, _, l1⟩
        refine ⟨_, rfl, .inl ⟨_, rfl, by omega, fun v r H10 s10 A10 I10 => ⟨_, rfl, _, rfl, by omega, fun v' r' H11 s11 A11 I11 => ?_⟩⟩⟩
        obtain rfl := I10.one I11
        refine ne_res (A10.same s11) A11 I10.good ⟨_, rfl, iteF ?_⟩
        exact ⟨_, _, _, rfl, (p9.mono s10).mono s11, (b9.trans (But.of s10)).trans (But.of s11)⟩
    rintro σ' H6 ⟨o6, o7, o8, rfl, p6, b6⟩
    clear p5 b6
    refine ⟨_, rfl, by show 1 ≤ sizeLine; decide, fun L1 hL1 => ?_⟩
    obtain ⟨s1, eL1, nL1, _, q1⟩ := new_facts (o := .lst [V.str x]) p6 hL1 rfl
    refine ⟨_, rfl, by show 1 ≤ sizeLine; decide, fun T1 hT1 => ?_⟩
    have s2 := same_upd (o := .tup [V.str x]) hT1
    have eT1 := upd_same (H := upd H6 L1 (.lst [V.str x])) (a := T1) (o := .tup [V.str x])
    generalize upd (upd H6 L1 (.lst [V.str x])) T1 (.tup [V.str x]) = H7 at s2 eT1 ⊢
    refine fun D1 hD1 => ?_
    have s3 := same_upd (o := .dK []) hD1
    have eD1 := upd_same (H := H7) (a := D1) (o := .dK [])
    generalize upd H7 D1 (.dK []) = H8 at s3 eD1 ⊢
    refine ⟨by show 2 ≤ sizeLine; decide, fun T2 hT2 => ?_⟩
    have s4 := same_upd (o := .tup [V.str "web 2", .str "road 0 1 1 1"]) hT2
    have eT2 := upd_same (H := H8) (a := T2) (o := .tup [V.str "web 2", .str "road 0 1 1 1"])
    generalize upd H8 T2 (.tup [V.str "web 2", .str "road 0 1 1 1"]) = H9 at s4 eT2 ⊢
    refine ⟨by show 7 ≤ sizeLine; decide, fun O hO => ?_⟩
    have s5 := same_upd (o := .lst [V.non, .int 0, .bl true, .ref L1, .ref T1, .ref D1, .ref T2]) hO
    have eO := upd_same (H := H9) (a := O) (o := .lst [V.non, .int 0, .bl true, .ref L1, .ref T1, .ref D1, .ref T2])
    generalize upd H9 O (.lst [V.non, .int 0, .bl true, .ref L1, .ref T1, .ref D1, .ref T2]) = HA at s5 eO ⊢
    have el : ∀ (i : Nat) (v : V), [V.non, .int 0, .bl true, .ref L1, .ref T1, .ref D1, .ref T2][i]? = some v → ∃ d0, Rp HA h v d0 ∧ isStr d0 = false := by
      intro i v e
      have m := List.mem_of_getElem? e
      simp only [List.mem_cons, List.not_mem_nil, or_false] at m
      rcases m with rfl | rfl | rfl | rfl | rfl | rfl | rfl
      · exact ⟨_, .non, rfl⟩
      · exact ⟨_, .int 0, rfl⟩
      · exact ⟨_, .bl true, rfl⟩
      · exact ⟨.lst, .lst (s5 _ _ (s4 _ _ (s3 _ _ (s2 _ _ eL1)))) nL1, rfl⟩
      · exact ⟨.tup [.str x], .tup (s5 _ _ (s4 _ _ (s3 _ _ eT1))) (by show 1 ≤ 100000; decide) (.cons (.str x) .nil), rfl⟩
      · exact ⟨.dct, .dct (s5 _ _ (s4 _ _ eD1)), rfl⟩
      · exact ⟨.tup [.str "web 2", .str "road 0 1 1 1"], .tup (s5 _ _ eT2) (by show 2 ≤ 100000; decide) (.cons (.str _) (.cons (.str _) .nil)), rfl⟩
    clear s1 s2 s3 s4 s5 eL1 eT1 eD1 eT2 p6 q1 hO hL1 hT1 hD1 hT2
    refine ⟨O, rfl, ⟨_, SqL.of eO⟩, ?_⟩
    refine for_list (K := K) (a := O) (xs := [V.non, .int 0, .bl true, .ref L1, .ref T1, .ref D1, .ref T2]) (fun i σ' H' => ∃ (o9 : Option V), σ' = [some (.ref a), some (.ref h), some vw, some vl, some vh, some (.str x), o6, o7, o8, o9] ∧ Same HA H')
      ⟨_, rfl, Same.refl _⟩ (fun i σ' H' _ ⟨_, _, g⟩ => SqL.of (g _ _ eO)) ?_ ?_
    · rintro i v σ' HB hv ⟨o9, rfl, sB⟩
      obtain ⟨d0, rp, i0⟩ := el i v hv
      refine ⟨_, rfl, .inr ⟨h, v, d0, rfl, rp.same sB, i0, fun v' HC sC A => ⟨by show 2 ≤ sizeLine; decide, fun t ht => ?_⟩⟩⟩
      have sD := same_upd (o := .tup [V.str "text", .int 0]) ht
      refine ne_res (A.same sD) (r := .text 0) ⟨t, rfl, upd_same⟩ (good_text 0) ⟨_, rfl, iteF ?_⟩
      exact ⟨_, rfl, (sB.trans sC).trans sD⟩
    rintro σ' HB ⟨o9, rfl, sB⟩
    clear sB eO el
    refine .inl ⟨"", rfl, by decide, fun v r HC sC A I => ⟨by show 2 ≤ sizeLine; decide, fun t ht => ?_⟩⟩
    obtain rfl := I.one (.text bad_empty)
    have sD := same_upd (o := .tup [V.str "text", .int 1]) ht
    refine eq_res (A.same sD) (r := .text 1) ⟨t, rfl, upd_same⟩ (good_text 1) ?_
    clear A I
    refine ⟨true, rfl, iteT ?_⟩
    refine ⟨_, rfl, .inl ⟨_, rfl, by omega, fun v r HE sE A I => ⟨_, rfl, _, rfl, by omega, fun v' r' HF sF A' I' => ?_⟩⟩⟩
    obtain rfl := I.one I'
    exact eq_res (A.same sF) A' I.good (kq _)
end
end Hc


set_option Elab.async false
set_option linter.all false
set_option maxRecDepth 100000
set_option maxHeartbeats 4000000
set_option autoImplicit false
namespace Hc
open PySem L2
/-- an error of the class at S is what «except S» names -/
theorem exm_self {K : PySem.W.Frag} {S : Addr} (h1 : PySem.W.subIn K (.ref S) (.type "BaseException") = some true) (h2 : PySem.W.isClsIn K S = true) (h3 : PySem.W.typeIn K (.ref S) = some (.type "type")) (h4 : PySem.W.subIn K (.ref S) (.ref S) = some true) :
    PySem.W.exmOne K (.ref S) (.ref S) = some true := by
  have e1 : (PySem.W.subIn K (.ref S) (.type "BaseException") == some true) = true := by rw [h1] <;> rfl
  have e2 : ((PySem.W.clsIn K S).isSome && PySem.W.typeIn K (.ref S) == some (.type "type")) = true := by
    have h2' : (PySem.W.clsIn K S).isSome = true := h2
    rw [h2', h3] <;> rfl
  show (if (PySem.W.subIn K (.ref S) (.type "BaseException") == some true) = true then (if ((PySem.W.clsIn K S).isSome && PySem.W.typeIn K (.ref S) == some (.type "type")) = true then PySem.W.subIn K (.ref S) (.ref S) else none) else none) = some true
  rw [if_pos e1, if_pos e2]
  exact h4
/-- an error of one class is not what «except» of another names -/
theorem exm_two {K : PySem.W.Frag} {S R : Addr} (h1 : PySem.W.subIn K (.ref R) (.type "BaseException") = some true) (h2 : PySem.W.isClsIn K R = true) (h3 : PySem.W.typeIn K (.ref R) = some (.type "type")) {b : Bool} (h4 : PySem.W.subIn K (.ref S) (.ref R) = some b) :
    PySem.W.exmOne K (.ref S) (.ref R) = some b := by
  have e1 : (PySem.W.subIn K (.ref R) (.type "BaseException") == some true) = true := by rw [h1] <;> rfl
  have e2 : ((PySem.W.clsIn K R).isSome && PySem.W.typeIn K (.ref R) == some (.type "type")) = true := by
    have h2' : (PySem.W.clsIn K R).isSome = true := h2
    rw [h2', h3] <;> rfl
  show (if (PySem.W.subIn K (.ref R) (.type "BaseException") == some true) = true then (if ((PySem.W.clsIn K R).isSome && PySem.W.typeIn K (.ref R) == some (.type "type")) = true then PySem.W.subIn K (.ref S) (.ref R) else none) else none) = some b
  rw [if_pos e1, if_pos e2]
  exact h4
theorem tx_mk {K : PySem.W.Frag} {h : Heap} {mg : Str → Option Value} (X : K.In h) (G : h.Ns mainGlobals mg)
    {fisqinteger : Addr} {odisqinteger anisqinteger : Option Addr} {slisqinteger : Array (Option Value)} {ocisqinteger kVisqinteger dcisqinteger pmisqinteger cdisqinteger ctisqinteger : Value}
    {fisqbetween : Addr} {odisqbetween anisqbetween : Option Addr} {slisqbetween : Array (Option Value)} {ocisqbetween kVisqbetween dcisqbetween pmisqbetween cdisqbetween ctisqbetween : Value}
    {fisqtuple : Addr} {odisqtuple anisqtuple : Option Addr} {slisqtuple : Array (Option Value)} {ocisqtuple kVisqtuple dcisqtuple pmisqtuple cdisqtuple ctisqtuple : Value}
    {fisqpair : Addr} {odisqpair anisqpair : Option Addr} {slisqpair : Array (Option Value)} {ocisqpair kVisqpair dcisqpair pmisqpair cdisqpair ctisqpair : Value}
    {fareqintegers : Addr} {odareqintegers anareqintegers : Option Addr} {slareqintegers : Array (Option Value)} {ocareqintegers kVareqintegers dcareqintegers pmareqintegers cdareqintegers ctareqintegers : Value}
    {fareqbetween : Addr} {odareqbetween anareqbetween : Option Addr} {slareqbetween : Array (Option Value)} {ocareqbetween kVareqbetween dcareqbetween pmareqbetween cdareqbetween ctareqbetween : Value}
    {fareqroads : Addr} {odareqroads anareqroads : Option Addr} {slareqroads : Array (Option Value)} {ocareqroads kVareqroads dcareqroads pmareqroads cdareqroads ctareqroads : Value}
    {fisqbeginqandqend : Addr} {odisqbeginqandqend anisqbeginqandqend : Option Addr} {slisqbeginqandqend : Array (Option Value)} {ocisqbeginqandqend kVisqbeginqandqend dcisqbeginqandqend pmisqbeginqandqend cdisqbeginqandqend ctisqbeginqandqend : Value}
    {fisqroad : Addr} {odisqroad anisqroad : Option Addr} {slisqroad : Array (Option Value)} {ocisqroad kVisqroad dcisqroad pmisqroad cdisqroad ctisqroad : Value}
    {fisqway : Addr} {odisqway anisqway : Option Addr} {slisqway : Array (Option Value)} {ocisqway kVisqway dcisqway pmisqway cdisqway ctisqway : Value}
    {fisqletter : Addr} {odisqletter anisqletter : Option Addr} {slisqletter : Array (Option Value)} {ocisqletter kVisqletter dcisqletter pmisqletter cdisqletter ctisqletter : Value}
    {fareqletters : Addr} {odareqletters anareqletters : Option Addr} {slareqletters : Array (Option Value)} {ocareqletters kVareqletters dcareqletters pmareqletters cdareqletters ctareqletters : Value}
    {fareqhours : Addr} {odareqhours anareqhours : Option Addr} {slareqhours : Array (Option Value)} {ocareqhours kVareqhours dcareqhours pmareqhours cdareqhours ctareqhours : Value}
    {ffirstqticks : Addr} {odfirstqticks anfirstqticks : Option Addr} {slfirstqticks : Array (Option Value)} {ocfirstqticks kVfirstqticks dcfirstqticks pmfirstqticks cdfirstqticks ctfirstqticks : Value}
    {fsomeqearly : Addr} {odsomeqearly ansomeqearly : Option Addr} {slsomeqearly : Array (Option Value)} {ocsomeqearly kVsomeqearly dcsomeqearly pmsomeqearly cdsomeqearly ctsomeqearly : Value}
    {fsomeqfull : Addr} {odsomeqfull ansomeqfull : Option Addr} {slsomeqfull : Array (Option Value)} {ocsomeqfull kVsomeqfull dcsomeqfull pmsomeqfull cdsomeqfull ctsomeqfull : Value}
    {freadqday : Addr} {odreadqday anreadqday : Option Addr} {slreadqday : Array (Option Value)} {ocreadqday kVreadqday dcreadqday pmreadqday cdreadqday ctreadqday : Value}
    {fwebqof : Addr} {odwebqof anwebqof : Option Addr} {slwebqof : Array (Option Value)} {ocwebqof kVwebqof dcwebqof pmwebqof cdwebqof ctwebqof : Value}
    {frowsqof : Addr} {odrowsqof anrowsqof : Option Addr} {slrowsqof : Array (Option Value)} {ocrowsqof kVrowsqof dcrowsqof pmrowsqof cdrowsqof ctrowsqof : Value}
    {fisqform : Addr} {odisqform anisqform : Option Addr} {slisqform : Array (Option Value)} {ocisqform kVisqform dcisqform pmisqform cdisqform ctisqform : Value}
    {fisqnumber : Addr} {odisqnumber anisqnumber : Option Addr} {slisqnumber : Array (Option Value)} {ocisqnumber kVisqnumber dcisqnumber pmisqnumber cdisqnumber ctisqnumber : Value}
    {fqlawqhand : Addr} {odqlawqhand anqlawqhand : Option Addr} {slqlawqhand : Array (Option Value)} {ocqlawqhand kVqlawqhand dcqlawqhand pmqlawqhand cdqlawqhand ctqlawqhand : Value}
    {fqlawqdraw : Addr} {odqlawqdraw anqlawqdraw : Option Addr} {slqlawqdraw : Array (Option Value)} {ocqlawqdraw kVqlawqdraw dcqlawqdraw pmqlawqdraw cdqlawqdraw ctqlawqdraw : Value}
    {fqlawqcounts : Addr} {odqlawqcounts anqlawqcounts : Option Addr} {slqlawqcounts : Array (Option Value)} {ocqlawqcounts kVqlawqcounts dcqlawqcounts pmqlawqcounts cdqlawqcounts ctqlawqcounts : Value}
    {fqlawqweb : Addr} {odqlawqweb anqlawqweb : Option Addr} {slqlawqweb : Array (Option Value)} {ocqlawqweb kVqlawqweb dcqlawqweb pmqlawqweb cdqlawqweb ctqlawqweb : Value}
    {fqlawqnext : Addr} {odqlawqnext anqlawqnext : Option Addr} {slqlawqnext : Array (Option Value)} {ocqlawqnext kVqlawqnext dcqlawqnext pmqlawqnext cdqlawqnext ctqlawqnext : Value}
    {fqlawqway : Addr} {odqlawqway anqlawqway : Option Addr} {slqlawqway : Array (Option Value)} {ocqlawqway kVqlawqway dcqlawqway pmqlawqway cdqlawqway ctqlawqway : Value}
    {fqlawqletters : Addr} {odqlawqletters anqlawqletters : Option Addr} {slqlawqletters : Array (Option Value)} {ocqlawqletters kVqlawqletters dcqlawqletters pmqlawqletters cdqlawqletters ctqlawqletters : Value}
    {fqlawqready : Addr} {odqlawqready anqlawqready : Option Addr} {slqlawqready : Array (Option Value)} {ocqlawqready kVqlawqready dcqlawqready pmqlawqready cdqlawqready ctqlawqready : Value}
    {fqlawqhours : Addr} {odqlawqhours anqlawqhours : Option Addr} {slqlawqhours : Array (Option Value)} {ocqlawqhours kVqlawqhours dcqlawqhours pmqlawqhours cdqlawqhours ctqlawqhours : Value}
    {fqlawqday : Addr} {odqlawqday anqlawqday : Option Addr} {slqlawqday : Array (Option Value)} {ocqlawqday kVqlawqday dcqlawqday pmqlawqday cdqlawqday ctqlawqday : Value}
    {fqlawqwebqtext : Addr} {odqlawqwebqtext anqlawqwebqtext : Option Addr} {slqlawqwebqtext : Array (Option Value)} {ocqlawqwebqtext kVqlawqwebqtext dcqlawqwebqtext pmqlawqwebqtext cdqlawqwebqtext ctqlawqwebqtext : Value}
    {fqlawqdayqtext : Addr} {odqlawqdayqtext anqlawqdayqtext : Option Addr} {slqlawqdayqtext : Array (Option Value)} {ocqlawqdayqtext kVqlawqdayqtext dcqlawqdayqtext pmqlawqdayqtext cdqlawqdayqtext ctqlawqdayqtext : Value}
    {fqlawqnumber : Addr} {odqlawqnumber anqlawqnumber : Option Addr} {slqlawqnumber : Array (Option Value)} {ocqlawqnumber kVqlawqnumber dcqlawqnumber pmqlawqnumber cdqlawqnumber ctqlawqnumber : Value}
    {fqlawqline : Addr} {odqlawqline anqlawqline : Option Addr} {slqlawqline : Array (Option Value)} {ocqlawqline kVqlawqline dcqlawqline pmqlawqline cdqlawqline ctqlawqline : Value}
    {fqlawqwrong : Addr} {odqlawqwrong anqlawqwrong : Option Addr} {slqlawqwrong : Array (Option Value)} {ocqlawqwrong kVqlawqwrong dcqlawqwrong pmqlawqwrong cdqlawqwrong ctqlawqwrong : Value}
    {fqlawqwebqpart : Addr} {odqlawqwebqpart anqlawqwebqpart : Option Addr} {slqlawqwebqpart : Array (Option Value)} {ocqlawqwebqpart kVqlawqwebqpart dcqlawqwebqpart pmqlawqwebqpart cdqlawqwebqpart ctqlawqwebqpart : Value}
    {fqlawqdue : Addr} {odqlawqdue anqlawqdue : Option Addr} {slqlawqdue : Array (Option Value)} {ocqlawqdue kVqlawqdue dcqlawqdue pmqlawqdue cdqlawqdue ctqlawqdue : Value}
    {fqlawqdayqpart : Addr} {odqlawqdayqpart anqlawqdayqpart : Option Addr} {slqlawqdayqpart : Array (Option Value)} {ocqlawqdayqpart kVqlawqdayqpart dcqlawqdayqpart pmqlawqdayqpart cdqlawqdayqpart ctqlawqdayqpart : Value}
    {fqlawqasked : Addr} {odqlawqasked anqlawqasked : Option Addr} {slqlawqasked : Array (Option Value)} {ocqlawqasked kVqlawqasked dcqlawqasked pmqlawqasked cdqlawqasked ctqlawqasked : Value}
    {fqlawqwordqbent : Addr} {odqlawqwordqbent anqlawqwordqbent : Option Addr} {slqlawqwordqbent : Array (Option Value)} {ocqlawqwordqbent kVqlawqwordqbent dcqlawqwordqbent pmqlawqwordqbent cdqlawqwordqbent ctqlawqwordqbent : Value}
    {fqlawqbent : Addr} {odqlawqbent anqlawqbent : Option Addr} {slqlawqbent : Array (Option Value)} {ocqlawqbent kVqlawqbent dcqlawqbent pmqlawqbent cdqlawqbent ctqlawqbent : Value}
    {flaw : Addr} {odlaw anlaw : Option Addr} {sllaw : Array (Option Value)} {oclaw kVlaw dclaw pmlaw cdlaw ctlaw : Value}
    {tMOSTqHOUSES : Tok}
    {tMOSTqROADS : Tok}
    {tMOSTqROOMS : Tok}
    {tLONGESTqTIME : Tok}
    {tLONGESTqWAY : Tok}
    {tMOSTqLETTERS : Tok}
    {tLASTqTICK : Tok}
    {tMOSTqFIGURES : Tok}
    {tFIGURES : Tok}
    {CWWeb fWWeb : Addr} {odWWeb anWWeb : Option Addr} {slWWeb : Array (Option Value)} {ocWWeb kVWWeb dcWWeb pmWWeb cdWWeb ctWWeb : Value}
    {CWDay fWDay : Addr} {odWDay anWDay : Option Addr} {slWDay : Array (Option Value)} {ocWDay kVWDay dcWDay pmWDay cdWDay ctWDay : Value}
    {CXBadWeb fXBadWeb : Addr} {odXBadWeb anXBadWeb : Option Addr} {slXBadWeb : Array (Option Value)} {ocXBadWeb kVXBadWeb dcXBadWeb pmXBadWeb cdXBadWeb ctXBadWeb : Value} {nmXBadWeb qnXBadWeb : Str} {NXBadWeb : Addr} {bsXBadWeb bmXBadWeb : List Value} {snXBadWeb : List Str} {subXBadWeb : List Value} {abXBadWeb : Bool} {colXBadWeb : Option Bool} {ddXBadWeb : Option Addr} {m0XBadWeb m1XBadWeb m2XBadWeb m3XBadWeb m5XBadWeb : Option Value}
    {CXBadDay fXBadDay : Addr} {odXBadDay anXBadDay : Option Addr} {slXBadDay : Array (Option Value)} {ocXBadDay kVXBadDay dcXBadDay pmXBadDay cdXBadDay ctXBadDay : Value} {nmXBadDay qnXBadDay : Str} {NXBadDay : Addr} {bsXBadDay bmXBadDay : List Value} {snXBadDay : List Str} {subXBadDay : List Value} {abXBadDay : Bool} {colXBadDay : Option Bool} {ddXBadDay : Option Addr} {m0XBadDay m1XBadDay m2XBadDay m3XBadDay m5XBadDay : Option Value}
    {CXBadText fXBadText : Addr} {odXBadText anXBadText : Option Addr} {slXBadText : Array (Option Value)} {ocXBadText kVXBadText dcXBadText pmXBadText cdXBadText ctXBadText : Value} {nmXBadText qnXBadText : Str} {NXBadText : Addr} {bsXBadText bmXBadText : List Value} {snXBadText : List Str} {subXBadText : List Value} {abXBadText : Bool} {colXBadText : Option Bool} {ddXBadText : Option Addr} {m0XBadText m1XBadText m2XBadText m3XBadText m5XBadText : Option Value}
    {CGHourError : Addr}
    (aisqinteger : PySem.W.nsIn K mainGlobals "is_integer" = some (some (.ref fisqinteger)))
    (lisqinteger : K.lookup fisqinteger = some ⟨ocisqinteger, odisqinteger, .func (PySem.W.fnOf "is_integer" "is_integer" (defArgs s_is_integer) (defBody s_is_integer) (defScope s_is_integer) .none kVisqinteger dcisqinteger pmisqinteger anisqinteger cdisqinteger ctisqinteger), slisqinteger⟩)
    (cisqinteger : PySem.W.codeIn K cdisqinteger "is_integer" = true)
    (kisqinteger : PySem.W.keepIn K (.ref fisqinteger) = true)
    (aisqbetween : PySem.W.nsIn K mainGlobals "is_between" = some (some (.ref fisqbetween)))
    (lisqbetween : K.lookup fisqbetween = some ⟨ocisqbetween, odisqbetween, .func (PySem.W.fnOf "is_between" "is_between" (defArgs s_is_between) (defBody s_is_between) (defScope s_is_between) .none kVisqbetween dcisqbetween pmisqbetween anisqbetween cdisqbetween ctisqbetween), slisqbetween⟩)
    (cisqbetween : PySem.W.codeIn K cdisqbetween "is_between" = true)
    (kisqbetween : PySem.W.keepIn K (.ref fisqbetween) = true)
    (aisqtuple : PySem.W.nsIn K mainGlobals "is_tuple" = some (some (.ref fisqtuple)))
    (lisqtuple : K.lookup fisqtuple = some ⟨ocisqtuple, odisqtuple, .func (PySem.W.fnOf "is_tuple" "is_tuple" (defArgs s_is_tuple) (defBody s_is_tuple) (defScope s_is_tuple) .none kVisqtuple dcisqtuple pmisqtuple anisqtuple cdisqtuple ctisqtuple), slisqtuple⟩)
    (cisqtuple : PySem.W.codeIn K cdisqtuple "is_tuple" = true)
    (kisqtuple : PySem.W.keepIn K (.ref fisqtuple) = true)
    (aisqpair : PySem.W.nsIn K mainGlobals "is_pair" = some (some (.ref fisqpair)))
    (lisqpair : K.lookup fisqpair = some ⟨ocisqpair, odisqpair, .func (PySem.W.fnOf "is_pair" "is_pair" (defArgs s_is_pair) (defBody s_is_pair) (defScope s_is_pair) .none kVisqpair dcisqpair pmisqpair anisqpair cdisqpair ctisqpair), slisqpair⟩)
    (cisqpair : PySem.W.codeIn K cdisqpair "is_pair" = true)
    (kisqpair : PySem.W.keepIn K (.ref fisqpair) = true)
    (aareqintegers : PySem.W.nsIn K mainGlobals "are_integers" = some (some (.ref fareqintegers)))
    (lareqintegers : K.lookup fareqintegers = some ⟨ocareqintegers, odareqintegers, .func (PySem.W.fnOf "are_integers" "are_integers" (defArgs s_are_integers) (defBody s_are_integers) (defScope s_are_integers) .none kVareqintegers dcareqintegers pmareqintegers anareqintegers cdareqintegers ctareqintegers), slareqintegers⟩)
    (careqintegers : PySem.W.codeIn K cdareqintegers "are_integers" = true)
    (kareqintegers : PySem.W.keepIn K (.ref fareqintegers) = true)
    (aareqbetween : PySem.W.nsIn K mainGlobals "are_between" = some (some (.ref fareqbetween)))
    (lareqbetween : K.lookup fareqbetween = some ⟨ocareqbetween, odareqbetween, .func (PySem.W.fnOf "are_between" "are_between" (defArgs s_are_between) (defBody s_are_between) (defScope s_are_between) .none kVareqbetween dcareqbetween pmareqbetween anareqbetween cdareqbetween ctareqbetween), slareqbetween⟩)
    (careqbetween : PySem.W.codeIn K cdareqbetween "are_between" = true)
    (kareqbetween : PySem.W.keepIn K (.ref fareqbetween) = true)
    (aareqroads : PySem.W.nsIn K mainGlobals "are_roads" = some (some (.ref fareqroads)))
    (lareqroads : K.lookup fareqroads = some ⟨ocareqroads, odareqroads, .func (PySem.W.fnOf "are_roads" "are_roads" (defArgs s_are_roads) (defBody s_are_roads) (defScope s_are_roads) .none kVareqroads dcareqroads pmareqroads anareqroads cdareqroads ctareqroads), slareqroads⟩)
    (careqroads : PySem.W.codeIn K cdareqroads "are_roads" = true)
    (kareqroads : PySem.W.keepIn K (.ref fareqroads) = true)
    (aisqbeginqandqend : PySem.W.nsIn K mainGlobals "is_begin_and_end" = some (some (.ref fisqbeginqandqend)))
    (lisqbeginqandqend : K.lookup fisqbeginqandqend = some ⟨ocisqbeginqandqend, odisqbeginqandqend, .func (PySem.W.fnOf "is_begin_and_end" "is_begin_and_end" (defArgs s_is_begin_and_end) (defBody s_is_begin_and_end) (defScope s_is_begin_and_end) .none kVisqbeginqandqend dcisqbeginqandqend pmisqbeginqandqend anisqbeginqandqend cdisqbeginqandqend ctisqbeginqandqend), slisqbeginqandqend⟩)
    (cisqbeginqandqend : PySem.W.codeIn K cdisqbeginqandqend "is_begin_and_end" = true)
    (kisqbeginqandqend : PySem.W.keepIn K (.ref fisqbeginqandqend) = true)
    (aisqroad : PySem.W.nsIn K mainGlobals "is_road" = some (some (.ref fisqroad)))
    (lisqroad : K.lookup fisqroad = some ⟨ocisqroad, odisqroad, .func (PySem.W.fnOf "is_road" "is_road" (defArgs s_is_road) (defBody s_is_road) (defScope s_is_road) .none kVisqroad dcisqroad pmisqroad anisqroad cdisqroad ctisqroad), slisqroad⟩)
    (cisqroad : PySem.W.codeIn K cdisqroad "is_road" = true)
    (kisqroad : PySem.W.keepIn K (.ref fisqroad) = true)
    (aisqway : PySem.W.nsIn K mainGlobals "is_way" = some (some (.ref fisqway)))
    (lisqway : K.lookup fisqway = some ⟨ocisqway, odisqway, .func (PySem.W.fnOf "is_way" "is_way" (defArgs s_is_way) (defBody s_is_way) (defScope s_is_way) .none kVisqway dcisqway pmisqway anisqway cdisqway ctisqway), slisqway⟩)
    (cisqway : PySem.W.codeIn K cdisqway "is_way" = true)
    (kisqway : PySem.W.keepIn K (.ref fisqway) = true)
    (aisqletter : PySem.W.nsIn K mainGlobals "is_letter" = some (some (.ref fisqletter)))
    (lisqletter : K.lookup fisqletter = some ⟨ocisqletter, odisqletter, .func (PySem.W.fnOf "is_letter" "is_letter" (defArgs s_is_letter) (defBody s_is_letter) (defScope s_is_letter) .none kVisqletter dcisqletter pmisqletter anisqletter cdisqletter ctisqletter), slisqletter⟩)
    (cisqletter : PySem.W.codeIn K cdisqletter "is_letter" = true)
    (kisqletter : PySem.W.keepIn K (.ref fisqletter) = true)
    (aareqletters : PySem.W.nsIn K mainGlobals "are_letters" = some (some (.ref fareqletters)))
    (lareqletters : K.lookup fareqletters = some ⟨ocareqletters, odareqletters, .func (PySem.W.fnOf "are_letters" "are_letters" (defArgs s_are_letters) (defBody s_are_letters) (defScope s_are_letters) .none kVareqletters dcareqletters pmareqletters anareqletters cdareqletters ctareqletters), slareqletters⟩)
    (careqletters : PySem.W.codeIn K cdareqletters "are_letters" = true)
    (kareqletters : PySem.W.keepIn K (.ref fareqletters) = true)
    (aareqhours : PySem.W.nsIn K mainGlobals "are_hours" = some (some (.ref fareqhours)))
    (lareqhours : K.lookup fareqhours = some ⟨ocareqhours, odareqhours, .func (PySem.W.fnOf "are_hours" "are_hours" (defArgs s_are_hours) (defBody s_are_hours) (defScope s_are_hours) .none kVareqhours dcareqhours pmareqhours anareqhours cdareqhours ctareqhours), slareqhours⟩)
    (careqhours : PySem.W.codeIn K cdareqhours "are_hours" = true)
    (kareqhours : PySem.W.keepIn K (.ref fareqhours) = true)
    (afirstqticks : PySem.W.nsIn K mainGlobals "first_ticks" = some (some (.ref ffirstqticks)))
    (lfirstqticks : K.lookup ffirstqticks = some ⟨ocfirstqticks, odfirstqticks, .func (PySem.W.fnOf "first_ticks" "first_ticks" (defArgs s_first_ticks) (defBody s_first_ticks) (defScope s_first_ticks) .none kVfirstqticks dcfirstqticks pmfirstqticks anfirstqticks cdfirstqticks ctfirstqticks), slfirstqticks⟩)
    (cfirstqticks : PySem.W.codeIn K cdfirstqticks "first_ticks" = true)
    (kfirstqticks : PySem.W.keepIn K (.ref ffirstqticks) = true)
    (asomeqearly : PySem.W.nsIn K mainGlobals "some_early" = some (some (.ref fsomeqearly)))
    (lsomeqearly : K.lookup fsomeqearly = some ⟨ocsomeqearly, odsomeqearly, .func (PySem.W.fnOf "some_early" "some_early" (defArgs s_some_early) (defBody s_some_early) (defScope s_some_early) .none kVsomeqearly dcsomeqearly pmsomeqearly ansomeqearly cdsomeqearly ctsomeqearly), slsomeqearly⟩)
    (csomeqearly : PySem.W.codeIn K cdsomeqearly "some_early" = true)
    (ksomeqearly : PySem.W.keepIn K (.ref fsomeqearly) = true)
    (asomeqfull : PySem.W.nsIn K mainGlobals "some_full" = some (some (.ref fsomeqfull)))
    (lsomeqfull : K.lookup fsomeqfull = some ⟨ocsomeqfull, odsomeqfull, .func (PySem.W.fnOf "some_full" "some_full" (defArgs s_some_full) (defBody s_some_full) (defScope s_some_full) .none kVsomeqfull dcsomeqfull pmsomeqfull ansomeqfull cdsomeqfull ctsomeqfull), slsomeqfull⟩)
    (csomeqfull : PySem.W.codeIn K cdsomeqfull "some_full" = true)
    (ksomeqfull : PySem.W.keepIn K (.ref fsomeqfull) = true)
    (areadqday : PySem.W.nsIn K mainGlobals "read_day" = some (some (.ref freadqday)))
    (lreadqday : K.lookup freadqday = some ⟨ocreadqday, odreadqday, .func (PySem.W.fnOf "read_day" "read_day" (defArgs s_read_day) (defBody s_read_day) (defScope s_read_day) .none kVreadqday dcreadqday pmreadqday anreadqday cdreadqday ctreadqday), slreadqday⟩)
    (creadqday : PySem.W.codeIn K cdreadqday "read_day" = true)
    (kreadqday : PySem.W.keepIn K (.ref freadqday) = true)
    (awebqof : PySem.W.nsIn K mainGlobals "web_of" = some (some (.ref fwebqof)))
    (lwebqof : K.lookup fwebqof = some ⟨ocwebqof, odwebqof, .func (PySem.W.fnOf "web_of" "web_of" (defArgs s_web_of) (defBody s_web_of) (defScope s_web_of) .none kVwebqof dcwebqof pmwebqof anwebqof cdwebqof ctwebqof), slwebqof⟩)
    (cwebqof : PySem.W.codeIn K cdwebqof "web_of" = true)
    (kwebqof : PySem.W.keepIn K (.ref fwebqof) = true)
    (arowsqof : PySem.W.nsIn K mainGlobals "rows_of" = some (some (.ref frowsqof)))
    (lrowsqof : K.lookup frowsqof = some ⟨ocrowsqof, odrowsqof, .func (PySem.W.fnOf "rows_of" "rows_of" (defArgs s_rows_of) (defBody s_rows_of) (defScope s_rows_of) .none kVrowsqof dcrowsqof pmrowsqof anrowsqof cdrowsqof ctrowsqof), slrowsqof⟩)
    (crowsqof : PySem.W.codeIn K cdrowsqof "rows_of" = true)
    (krowsqof : PySem.W.keepIn K (.ref frowsqof) = true)
    (aisqform : PySem.W.nsIn K mainGlobals "is_form" = some (some (.ref fisqform)))
    (lisqform : K.lookup fisqform = some ⟨ocisqform, odisqform, .func (PySem.W.fnOf "is_form" "is_form" (defArgs s_is_form) (defBody s_is_form) (defScope s_is_form) .none kVisqform dcisqform pmisqform anisqform cdisqform ctisqform), slisqform⟩)
    (cisqform : PySem.W.codeIn K cdisqform "is_form" = true)
    (kisqform : PySem.W.keepIn K (.ref fisqform) = true)
    (aisqnumber : PySem.W.nsIn K mainGlobals "is_number" = some (some (.ref fisqnumber)))
    (lisqnumber : K.lookup fisqnumber = some ⟨ocisqnumber, odisqnumber, .func (PySem.W.fnOf "is_number" "is_number" (defArgs s_is_number) (defBody s_is_number) (defScope s_is_number) .none kVisqnumber dcisqnumber pmisqnumber anisqnumber cdisqnumber ctisqnumber), slisqnumber⟩)
    (cisqnumber : PySem.W.codeIn K cdisqnumber "is_number" = true)
    (kisqnumber : PySem.W.keepIn K (.ref fisqnumber) = true)
    (aqlawqhand : PySem.W.nsIn K mainGlobals "_law_hand" = some (some (.ref fqlawqhand)))
    (lqlawqhand : K.lookup fqlawqhand = some ⟨ocqlawqhand, odqlawqhand, .func (PySem.W.fnOf "_law_hand" "_law_hand" (defArgs s_law_hand) (defBody s_law_hand) (defScope s_law_hand) .none kVqlawqhand dcqlawqhand pmqlawqhand anqlawqhand cdqlawqhand ctqlawqhand), slqlawqhand⟩)
    (cqlawqhand : PySem.W.codeIn K cdqlawqhand "_law_hand" = true)
    (kqlawqhand : PySem.W.keepIn K (.ref fqlawqhand) = true)
    (aqlawqdraw : PySem.W.nsIn K mainGlobals "_law_draw" = some (some (.ref fqlawqdraw)))
    (lqlawqdraw : K.lookup fqlawqdraw = some ⟨ocqlawqdraw, odqlawqdraw, .func (PySem.W.fnOf "_law_draw" "_law_draw" (defArgs s_law_draw) (defBody s_law_draw) (defScope s_law_draw) .none kVqlawqdraw dcqlawqdraw pmqlawqdraw anqlawqdraw cdqlawqdraw ctqlawqdraw), slqlawqdraw⟩)
    (cqlawqdraw : PySem.W.codeIn K cdqlawqdraw "_law_draw" = true)
    (kqlawqdraw : PySem.W.keepIn K (.ref fqlawqdraw) = true)
    (aqlawqcounts : PySem.W.nsIn K mainGlobals "_law_counts" = some (some (.ref fqlawqcounts)))
    (lqlawqcounts : K.lookup fqlawqcounts = some ⟨ocqlawqcounts, odqlawqcounts, .func (PySem.W.fnOf "_law_counts" "_law_counts" (defArgs s_law_counts) (defBody s_law_counts) (defScope s_law_counts) .none kVqlawqcounts dcqlawqcounts pmqlawqcounts anqlawqcounts cdqlawqcounts ctqlawqcounts), slqlawqcounts⟩)
    (cqlawqcounts : PySem.W.codeIn K cdqlawqcounts "_law_counts" = true)
    (kqlawqcounts : PySem.W.keepIn K (.ref fqlawqcounts) = true)
    (aqlawqweb : PySem.W.nsIn K mainGlobals "_law_web" = some (some (.ref fqlawqweb)))
    (lqlawqweb : K.lookup fqlawqweb = some ⟨ocqlawqweb, odqlawqweb, .func (PySem.W.fnOf "_law_web" "_law_web" (defArgs s_law_web) (defBody s_law_web) (defScope s_law_web) .none kVqlawqweb dcqlawqweb pmqlawqweb anqlawqweb cdqlawqweb ctqlawqweb), slqlawqweb⟩)
    (cqlawqweb : PySem.W.codeIn K cdqlawqweb "_law_web" = true)
    (kqlawqweb : PySem.W.keepIn K (.ref fqlawqweb) = true)
    (aqlawqnext : PySem.W.nsIn K mainGlobals "_law_next" = some (some (.ref fqlawqnext)))
    (lqlawqnext : K.lookup fqlawqnext = some ⟨ocqlawqnext, odqlawqnext, .func (PySem.W.fnOf "_law_next" "_law_next" (defArgs s_law_next) (defBody s_law_next) (defScope s_law_next) .none kVqlawqnext dcqlawqnext pmqlawqnext anqlawqnext cdqlawqnext ctqlawqnext), slqlawqnext⟩)
    (cqlawqnext : PySem.W.codeIn K cdqlawqnext "_law_next" = true)
    (kqlawqnext : PySem.W.keepIn K (.ref fqlawqnext) = true)
    (aqlawqway : PySem.W.nsIn K mainGlobals "_law_way" = some (some (.ref fqlawqway)))
    (lqlawqway : K.lookup fqlawqway = some ⟨ocqlawqway, odqlawqway, .func (PySem.W.fnOf "_law_way" "_law_way" (defArgs s_law_way) (defBody s_law_way) (defScope s_law_way) .none kVqlawqway dcqlawqway pmqlawqway anqlawqway cdqlawqway ctqlawqway), slqlawqway⟩)
    (cqlawqway : PySem.W.codeIn K cdqlawqway "_law_way" = true)
    (kqlawqway : PySem.W.keepIn K (.ref fqlawqway) = true)
    (aqlawqletters : PySem.W.nsIn K mainGlobals "_law_letters" = some (some (.ref fqlawqletters)))
    (lqlawqletters : K.lookup fqlawqletters = some ⟨ocqlawqletters, odqlawqletters, .func (PySem.W.fnOf "_law_letters" "_law_letters" (defArgs s_law_letters) (defBody s_law_letters) (defScope s_law_letters) .none kVqlawqletters dcqlawqletters pmqlawqletters anqlawqletters cdqlawqletters ctqlawqletters), slqlawqletters⟩)
    (cqlawqletters : PySem.W.codeIn K cdqlawqletters "_law_letters" = true)
    (kqlawqletters : PySem.W.keepIn K (.ref fqlawqletters) = true)
    (aqlawqready : PySem.W.nsIn K mainGlobals "_law_ready" = some (some (.ref fqlawqready)))
    (lqlawqready : K.lookup fqlawqready = some ⟨ocqlawqready, odqlawqready, .func (PySem.W.fnOf "_law_ready" "_law_ready" (defArgs s_law_ready) (defBody s_law_ready) (defScope s_law_ready) .none kVqlawqready dcqlawqready pmqlawqready anqlawqready cdqlawqready ctqlawqready), slqlawqready⟩)
    (cqlawqready : PySem.W.codeIn K cdqlawqready "_law_ready" = true)
    (kqlawqready : PySem.W.keepIn K (.ref fqlawqready) = true)
    (aqlawqhours : PySem.W.nsIn K mainGlobals "_law_hours" = some (some (.ref fqlawqhours)))
    (lqlawqhours : K.lookup fqlawqhours = some ⟨ocqlawqhours, odqlawqhours, .func (PySem.W.fnOf "_law_hours" "_law_hours" (defArgs s_law_hours) (defBody s_law_hours) (defScope s_law_hours) .none kVqlawqhours dcqlawqhours pmqlawqhours anqlawqhours cdqlawqhours ctqlawqhours), slqlawqhours⟩)
    (cqlawqhours : PySem.W.codeIn K cdqlawqhours "_law_hours" = true)
    (kqlawqhours : PySem.W.keepIn K (.ref fqlawqhours) = true)
    (aqlawqday : PySem.W.nsIn K mainGlobals "_law_day" = some (some (.ref fqlawqday)))
    (lqlawqday : K.lookup fqlawqday = some ⟨ocqlawqday, odqlawqday, .func (PySem.W.fnOf "_law_day" "_law_day" (defArgs s_law_day) (defBody s_law_day) (defScope s_law_day) .none kVqlawqday dcqlawqday pmqlawqday anqlawqday cdqlawqday ctqlawqday), slqlawqday⟩)
    (cqlawqday : PySem.W.codeIn K cdqlawqday "_law_day" = true)
    (kqlawqday : PySem.W.keepIn K (.ref fqlawqday) = true)
    (aqlawqwebqtext : PySem.W.nsIn K mainGlobals "_law_web_text" = some (some (.ref fqlawqwebqtext)))
    (lqlawqwebqtext : K.lookup fqlawqwebqtext = some ⟨ocqlawqwebqtext, odqlawqwebqtext, .func (PySem.W.fnOf "_law_web_text" "_law_web_text" (defArgs s_law_web_text) (defBody s_law_web_text) (defScope s_law_web_text) .none kVqlawqwebqtext dcqlawqwebqtext pmqlawqwebqtext anqlawqwebqtext cdqlawqwebqtext ctqlawqwebqtext), slqlawqwebqtext⟩)
    (cqlawqwebqtext : PySem.W.codeIn K cdqlawqwebqtext "_law_web_text" = true)
    (kqlawqwebqtext : PySem.W.keepIn K (.ref fqlawqwebqtext) = true)
    (aqlawqdayqtext : PySem.W.nsIn K mainGlobals "_law_day_text" = some (some (.ref fqlawqdayqtext)))
    (lqlawqdayqtext : K.lookup fqlawqdayqtext = some ⟨ocqlawqdayqtext, odqlawqdayqtext, .func (PySem.W.fnOf "_law_day_text" "_law_day_text" (defArgs s_law_day_text) (defBody s_law_day_text) (defScope s_law_day_text) .none kVqlawqdayqtext dcqlawqdayqtext pmqlawqdayqtext anqlawqdayqtext cdqlawqdayqtext ctqlawqdayqtext), slqlawqdayqtext⟩)
    (cqlawqdayqtext : PySem.W.codeIn K cdqlawqdayqtext "_law_day_text" = true)
    (kqlawqdayqtext : PySem.W.keepIn K (.ref fqlawqdayqtext) = true)
    (aqlawqnumber : PySem.W.nsIn K mainGlobals "_law_number" = some (some (.ref fqlawqnumber)))
    (lqlawqnumber : K.lookup fqlawqnumber = some ⟨ocqlawqnumber, odqlawqnumber, .func (PySem.W.fnOf "_law_number" "_law_number" (defArgs s_law_number) (defBody s_law_number) (defScope s_law_number) .none kVqlawqnumber dcqlawqnumber pmqlawqnumber anqlawqnumber cdqlawqnumber ctqlawqnumber), slqlawqnumber⟩)
    (cqlawqnumber : PySem.W.codeIn K cdqlawqnumber "_law_number" = true)
    (kqlawqnumber : PySem.W.keepIn K (.ref fqlawqnumber) = true)
    (aqlawqline : PySem.W.nsIn K mainGlobals "_law_line" = some (some (.ref fqlawqline)))
    (lqlawqline : K.lookup fqlawqline = some ⟨ocqlawqline, odqlawqline, .func (PySem.W.fnOf "_law_line" "_law_line" (defArgs s_law_line) (defBody s_law_line) (defScope s_law_line) .none kVqlawqline dcqlawqline pmqlawqline anqlawqline cdqlawqline ctqlawqline), slqlawqline⟩)
    (cqlawqline : PySem.W.codeIn K cdqlawqline "_law_line" = true)
    (kqlawqline : PySem.W.keepIn K (.ref fqlawqline) = true)
    (aqlawqwrong : PySem.W.nsIn K mainGlobals "_law_wrong" = some (some (.ref fqlawqwrong)))
    (lqlawqwrong : K.lookup fqlawqwrong = some ⟨ocqlawqwrong, odqlawqwrong, .func (PySem.W.fnOf "_law_wrong" "_law_wrong" (defArgs s_law_wrong) (defBody s_law_wrong) (defScope s_law_wrong) .none kVqlawqwrong dcqlawqwrong pmqlawqwrong anqlawqwrong cdqlawqwrong ctqlawqwrong), slqlawqwrong⟩)
    (cqlawqwrong : PySem.W.codeIn K cdqlawqwrong "_law_wrong" = true)
    (kqlawqwrong : PySem.W.keepIn K (.ref fqlawqwrong) = true)
    (aqlawqwebqpart : PySem.W.nsIn K mainGlobals "_law_web_part" = some (some (.ref fqlawqwebqpart)))
    (lqlawqwebqpart : K.lookup fqlawqwebqpart = some ⟨ocqlawqwebqpart, odqlawqwebqpart, .func (PySem.W.fnOf "_law_web_part" "_law_web_part" (defArgs s_law_web_part) (defBody s_law_web_part) (defScope s_law_web_part) .none kVqlawqwebqpart dcqlawqwebqpart pmqlawqwebqpart anqlawqwebqpart cdqlawqwebqpart ctqlawqwebqpart), slqlawqwebqpart⟩)
    (cqlawqwebqpart : PySem.W.codeIn K cdqlawqwebqpart "_law_web_part" = true)
    (kqlawqwebqpart : PySem.W.keepIn K (.ref fqlawqwebqpart) = true)
    (aqlawqdue : PySem.W.nsIn K mainGlobals "_law_due" = some (some (.ref fqlawqdue)))
    (lqlawqdue : K.lookup fqlawqdue = some ⟨ocqlawqdue, odqlawqdue, .func (PySem.W.fnOf "_law_due" "_law_due" (defArgs s_law_due) (defBody s_law_due) (defScope s_law_due) .none kVqlawqdue dcqlawqdue pmqlawqdue anqlawqdue cdqlawqdue ctqlawqdue), slqlawqdue⟩)
    (cqlawqdue : PySem.W.codeIn K cdqlawqdue "_law_due" = true)
    (kqlawqdue : PySem.W.keepIn K (.ref fqlawqdue) = true)
    (aqlawqdayqpart : PySem.W.nsIn K mainGlobals "_law_day_part" = some (some (.ref fqlawqdayqpart)))
    (lqlawqdayqpart : K.lookup fqlawqdayqpart = some ⟨ocqlawqdayqpart, odqlawqdayqpart, .func (PySem.W.fnOf "_law_day_part" "_law_day_part" (defArgs s_law_day_part) (defBody s_law_day_part) (defScope s_law_day_part) .none kVqlawqdayqpart dcqlawqdayqpart pmqlawqdayqpart anqlawqdayqpart cdqlawqdayqpart ctqlawqdayqpart), slqlawqdayqpart⟩)
    (cqlawqdayqpart : PySem.W.codeIn K cdqlawqdayqpart "_law_day_part" = true)
    (kqlawqdayqpart : PySem.W.keepIn K (.ref fqlawqdayqpart) = true)
    (aqlawqasked : PySem.W.nsIn K mainGlobals "_law_asked" = some (some (.ref fqlawqasked)))
    (lqlawqasked : K.lookup fqlawqasked = some ⟨ocqlawqasked, odqlawqasked, .func (PySem.W.fnOf "_law_asked" "_law_asked" (defArgs s_law_asked) (defBody s_law_asked) (defScope s_law_asked) .none kVqlawqasked dcqlawqasked pmqlawqasked anqlawqasked cdqlawqasked ctqlawqasked), slqlawqasked⟩)
    (cqlawqasked : PySem.W.codeIn K cdqlawqasked "_law_asked" = true)
    (kqlawqasked : PySem.W.keepIn K (.ref fqlawqasked) = true)
    (aqlawqwordqbent : PySem.W.nsIn K mainGlobals "_law_word_bent" = some (some (.ref fqlawqwordqbent)))
    (lqlawqwordqbent : K.lookup fqlawqwordqbent = some ⟨ocqlawqwordqbent, odqlawqwordqbent, .func (PySem.W.fnOf "_law_word_bent" "_law_word_bent" (defArgs s_law_word_bent) (defBody s_law_word_bent) (defScope s_law_word_bent) .none kVqlawqwordqbent dcqlawqwordqbent pmqlawqwordqbent anqlawqwordqbent cdqlawqwordqbent ctqlawqwordqbent), slqlawqwordqbent⟩)
    (cqlawqwordqbent : PySem.W.codeIn K cdqlawqwordqbent "_law_word_bent" = true)
    (kqlawqwordqbent : PySem.W.keepIn K (.ref fqlawqwordqbent) = true)
    (aqlawqbent : PySem.W.nsIn K mainGlobals "_law_bent" = some (some (.ref fqlawqbent)))
    (lqlawqbent : K.lookup fqlawqbent = some ⟨ocqlawqbent, odqlawqbent, .func (PySem.W.fnOf "_law_bent" "_law_bent" (defArgs s_law_bent) (defBody s_law_bent) (defScope s_law_bent) .none kVqlawqbent dcqlawqbent pmqlawqbent anqlawqbent cdqlawqbent ctqlawqbent), slqlawqbent⟩)
    (cqlawqbent : PySem.W.codeIn K cdqlawqbent "_law_bent" = true)
    (kqlawqbent : PySem.W.keepIn K (.ref fqlawqbent) = true)
    (alaw : PySem.W.nsIn K mainGlobals "law" = some (some (.ref flaw)))
    (llaw : K.lookup flaw = some ⟨oclaw, odlaw, .func (PySem.W.fnOf "law" "law" (defArgs s_law) (defBody s_law) (defScope s_law) .none kVlaw dclaw pmlaw anlaw cdlaw ctlaw), sllaw⟩)
    (claw : PySem.W.codeIn K cdlaw "law" = true)
    (klaw : PySem.W.keepIn K (.ref flaw) = true)
    (aMOSTqHOUSES : PySem.W.nsIn K mainGlobals "MOST_HOUSES" = some (some (.int 12 tMOSTqHOUSES)))
    (aMOSTqROADS : PySem.W.nsIn K mainGlobals "MOST_ROADS" = some (some (.int 24 tMOSTqROADS)))
    (aMOSTqROOMS : PySem.W.nsIn K mainGlobals "MOST_ROOMS" = some (some (.int 3 tMOSTqROOMS)))
    (aLONGESTqTIME : PySem.W.nsIn K mainGlobals "LONGEST_TIME" = some (some (.int 3 tLONGESTqTIME)))
    (aLONGESTqWAY : PySem.W.nsIn K mainGlobals "LONGEST_WAY" = some (some (.int 8 tLONGESTqWAY)))
    (aMOSTqLETTERS : PySem.W.nsIn K mainGlobals "MOST_LETTERS" = some (some (.int 60 tMOSTqLETTERS)))
    (aLASTqTICK : PySem.W.nsIn K mainGlobals "LAST_TICK" = some (some (.int 1000000 tLASTqTICK)))
    (aMOSTqFIGURES : PySem.W.nsIn K mainGlobals "MOST_FIGURES" = some (some (.int 9 tMOSTqFIGURES)))
    (aFIGURES : PySem.W.nsIn K mainGlobals "FIGURES" = some (some (.str "0123456789" tFIGURES)))
    (aWWeb : PySem.W.nsIn K mainGlobals "Web" = some (some (.ref CWWeb)))
    (iWWeb : PySem.W.findIn K (.ref CWWeb) "__init__" = some (some (.ref fWWeb)))
    (yWWeb : PySem.W.isFn K (.ref fWWeb) = true)
    (lWWeb : K.lookup fWWeb = some ⟨ocWWeb, odWWeb, .func (PySem.W.fnOf "__init__" "Web.__init__" (defArgs s_Web___init) (defBody s_Web___init) (defScope s_Web___init) .none kVWWeb dcWWeb pmWWeb anWWeb cdWWeb ctWWeb), slWWeb⟩)
    (cWWeb : PySem.W.codeIn K cdWWeb "Web.__init__" = true)
    (kWWeb : PySem.W.keepIn K (.ref fWWeb) = true)
    (pgWWeb : PySem.W.plainGet K CWWeb Str.empty = true)
    (hdWWeb : PySem.W.hasDictIn K CWWeb = true)
    (poWWeb : PySem.W.plainOver K CWWeb = true)
    (saWWeb : PySem.W.findIn K (.ref CWWeb) "__setattr__" = some (some (.builtin "object.__setattr__")))
    (mkWWeb : PySem.W.makesIn K CWWeb = true)
    (kcWWeb : PySem.W.keepIn K (.ref CWWeb) = true)
    (naWWebhouses : PySem.W.findIn K (.ref CWWeb) "houses" = some none)
    (naWWebroads : PySem.W.findIn K (.ref CWWeb) "roads" = some none)
    (naWWebrooms : PySem.W.findIn K (.ref CWWeb) "rooms" = some none)
    (naWWebtimes : PySem.W.findIn K (.ref CWWeb) "times" = some none)
    (aWDay : PySem.W.nsIn K mainGlobals "Day" = some (some (.ref CWDay)))
    (iWDay : PySem.W.findIn K (.ref CWDay) "__init__" = some (some (.ref fWDay)))
    (yWDay : PySem.W.isFn K (.ref fWDay) = true)
    (lWDay : K.lookup fWDay = some ⟨ocWDay, odWDay, .func (PySem.W.fnOf "__init__" "Day.__init__" (defArgs s_Day___init) (defBody s_Day___init) (defScope s_Day___init) .none kVWDay dcWDay pmWDay anWDay cdWDay ctWDay), slWDay⟩)
    (cWDay : PySem.W.codeIn K cdWDay "Day.__init__" = true)
    (kWDay : PySem.W.keepIn K (.ref fWDay) = true)
    (pgWDay : PySem.W.plainGet K CWDay Str.empty = true)
    (hdWDay : PySem.W.hasDictIn K CWDay = true)
    (poWDay : PySem.W.plainOver K CWDay = true)
    (saWDay : PySem.W.findIn K (.ref CWDay) "__setattr__" = some (some (.builtin "object.__setattr__")))
    (mkWDay : PySem.W.makesIn K CWDay = true)
    (kcWDay : PySem.W.keepIn K (.ref CWDay) = true)
    (naWDayweb : PySem.W.findIn K (.ref CWDay) "web" = some none)
    (naWDayletters : PySem.W.findIn K (.ref CWDay) "letters" = some none)
    (naWDayhours : PySem.W.findIn K (.ref CWDay) "hours" = some none)
    (aXBadWeb : PySem.W.nsIn K mainGlobals "BadWeb" = some (some (.ref CXBadWeb)))
    (xXBadWeb : K.lookup CXBadWeb = some (excClassObj nmXBadWeb qnXBadWeb CXBadWeb NXBadWeb bsXBadWeb bmXBadWeb true snXBadWeb subXBadWeb abXBadWeb colXBadWeb ddXBadWeb m0XBadWeb m1XBadWeb m2XBadWeb m3XBadWeb m5XBadWeb "ValueError.__new__"))
    (bmXBadWebo : PySem.HandSPX.refsVE bmXBadWeb = true)
    (saXBadWeb : PySem.W.findIn K (.ref CXBadWeb) "__setattr__" = some (some (.builtin "object.__setattr__")))
    (gaXBadWeb : PySem.W.findIn K (.ref CXBadWeb) "__getattribute__" = some (some (.builtin "BaseException.__getattribute__")))
    (ggXBadWeb : PySem.W.findIn K (.ref CXBadWeb) "__getattr__" = some none)
    (iXBadWeb : PySem.W.findIn K (.ref CXBadWeb) "__init__" = some (some (.ref fXBadWeb)))
    (yXBadWeb : PySem.W.typeIn K (.ref fXBadWeb) = some (.type "function"))
    (lXBadWeb : K.lookup fXBadWeb = some ⟨ocXBadWeb, odXBadWeb, .func (PySem.W.fnOf "__init__" "BadWeb.__init__" (defArgs s_BadWeb___init) (defBody s_BadWeb___init) (defScope s_BadWeb___init) .none kVXBadWeb dcXBadWeb pmXBadWeb anXBadWeb cdXBadWeb ctXBadWeb), slXBadWeb⟩)
    (cXBadWeb : PySem.W.codeIn K cdXBadWeb "BadWeb.__init__" = true)
    (kXBadWeb : PySem.W.keepIn K (.ref fXBadWeb) = true)
    (kcXBadWeb : PySem.W.keepIn K (.ref CXBadWeb) = true)
    (exXBadWeb : PySem.W.subIn K (.ref CXBadWeb) (.type "BaseException") = some true)
    (tyXBadWeb : PySem.W.typeIn K (.ref CXBadWeb) = some (.type "type"))
    (hdXBadWeb : PySem.W.hasDictIn K CXBadWeb = true)
    (icXBadWeb : PySem.W.isClsIn K CXBadWeb = true)
    (suXBadWeb : PySem.W.subIn K (.ref CXBadWeb) (.ref CXBadWeb) = some true)
    (naXBadWebpart : PySem.W.findIn K (.ref CXBadWeb) "part" = some none)
    (aXBadDay : PySem.W.nsIn K mainGlobals "BadDay" = some (some (.ref CXBadDay)))
    (xXBadDay : K.lookup CXBadDay = some (excClassObj nmXBadDay qnXBadDay CXBadDay NXBadDay bsXBadDay bmXBadDay true snXBadDay subXBadDay abXBadDay colXBadDay ddXBadDay m0XBadDay m1XBadDay m2XBadDay m3XBadDay m5XBadDay "ValueError.__new__"))
    (bmXBadDayo : PySem.HandSPX.refsVE bmXBadDay = true)
    (saXBadDay : PySem.W.findIn K (.ref CXBadDay) "__setattr__" = some (some (.builtin "object.__setattr__")))
    (gaXBadDay : PySem.W.findIn K (.ref CXBadDay) "__getattribute__" = some (some (.builtin "BaseException.__getattribute__")))
    (ggXBadDay : PySem.W.findIn K (.ref CXBadDay) "__getattr__" = some none)
    (iXBadDay : PySem.W.findIn K (.ref CXBadDay) "__init__" = some (some (.ref fXBadDay)))
    (yXBadDay : PySem.W.typeIn K (.ref fXBadDay) = some (.type "function"))
    (lXBadDay : K.lookup fXBadDay = some ⟨ocXBadDay, odXBadDay, .func (PySem.W.fnOf "__init__" "BadDay.__init__" (defArgs s_BadDay___init) (defBody s_BadDay___init) (defScope s_BadDay___init) .none kVXBadDay dcXBadDay pmXBadDay anXBadDay cdXBadDay ctXBadDay), slXBadDay⟩)
    (cXBadDay : PySem.W.codeIn K cdXBadDay "BadDay.__init__" = true)
    (kXBadDay : PySem.W.keepIn K (.ref fXBadDay) = true)
    (kcXBadDay : PySem.W.keepIn K (.ref CXBadDay) = true)
    (exXBadDay : PySem.W.subIn K (.ref CXBadDay) (.type "BaseException") = some true)
    (tyXBadDay : PySem.W.typeIn K (.ref CXBadDay) = some (.type "type"))
    (hdXBadDay : PySem.W.hasDictIn K CXBadDay = true)
    (icXBadDay : PySem.W.isClsIn K CXBadDay = true)
    (suXBadDay : PySem.W.subIn K (.ref CXBadDay) (.ref CXBadDay) = some true)
    (naXBadDaypart : PySem.W.findIn K (.ref CXBadDay) "part" = some none)
    (aXBadText : PySem.W.nsIn K mainGlobals "BadText" = some (some (.ref CXBadText)))
    (xXBadText : K.lookup CXBadText = some (excClassObj nmXBadText qnXBadText CXBadText NXBadText bsXBadText bmXBadText true snXBadText subXBadText abXBadText colXBadText ddXBadText m0XBadText m1XBadText m2XBadText m3XBadText m5XBadText "ValueError.__new__"))
    (bmXBadTexto : PySem.HandSPX.refsVE bmXBadText = true)
    (saXBadText : PySem.W.findIn K (.ref CXBadText) "__setattr__" = some (some (.builtin "object.__setattr__")))
    (gaXBadText : PySem.W.findIn K (.ref CXBadText) "__getattribute__" = some (some (.builtin "BaseException.__getattribute__")))
    (ggXBadText : PySem.W.findIn K (.ref CXBadText) "__getattr__" = some none)
    (iXBadText : PySem.W.findIn K (.ref CXBadText) "__init__" = some (some (.ref fXBadText)))
    (yXBadText : PySem.W.typeIn K (.ref fXBadText) = some (.type "function"))
    (lXBadText : K.lookup fXBadText = some ⟨ocXBadText, odXBadText, .func (PySem.W.fnOf "__init__" "BadText.__init__" (defArgs s_BadText___init) (defBody s_BadText___init) (defScope s_BadText___init) .none kVXBadText dcXBadText pmXBadText anXBadText cdXBadText ctXBadText), slXBadText⟩)
    (cXBadText : PySem.W.codeIn K cdXBadText "BadText.__init__" = true)
    (kXBadText : PySem.W.keepIn K (.ref fXBadText) = true)
    (kcXBadText : PySem.W.keepIn K (.ref CXBadText) = true)
    (exXBadText : PySem.W.subIn K (.ref CXBadText) (.type "BaseException") = some true)
    (tyXBadText : PySem.W.typeIn K (.ref CXBadText) = some (.type "type"))
    (hdXBadText : PySem.W.hasDictIn K CXBadText = true)
    (icXBadText : PySem.W.isClsIn K CXBadText = true)
    (suXBadText : PySem.W.subIn K (.ref CXBadText) (.ref CXBadText) = some true)
    (naXBadTextline : PySem.W.findIn K (.ref CXBadText) "line" = some none)
    (anqisinstance : PySem.W.nsIn K mainGlobals "isinstance" = some none)
    (anqint : PySem.W.nsIn K mainGlobals "int" = some none)
    (anqbool : PySem.W.nsIn K mainGlobals "bool" = some none)
    (anqstr : PySem.W.nsIn K mainGlobals "str" = some none)
    (anqtuple : PySem.W.nsIn K mainGlobals "tuple" = some none)
    (anqlist : PySem.W.nsIn K mainGlobals "list" = some none)
    (anqlen : PySem.W.nsIn K mainGlobals "len" = some none)
    (anqall : PySem.W.nsIn K mainGlobals "all" = some none)
    (anqany : PySem.W.nsIn K mainGlobals "any" = some none)
    (anqabs : PySem.W.nsIn K mainGlobals "abs" = some none)
    (anqrange : PySem.W.nsIn K mainGlobals "range" = some none)
    (anqzip : PySem.W.nsIn K mainGlobals "zip" = some none)
    (anqenumerate : PySem.W.nsIn K mainGlobals "enumerate" = some none)
    (anqsorted : PySem.W.nsIn K mainGlobals "sorted" = some none)
    (aGHourError : PySem.W.nsIn K mainGlobals "HourError" = some (some (.ref CGHourError)))
    (suBadWebBadText : PySem.W.subIn K (.ref CXBadWeb) (.ref CXBadText) = some false)
    (suBadDayBadText : PySem.W.subIn K (.ref CXBadDay) (.ref CXBadText) = some false)
    (suBadDayBadWeb : PySem.W.subIn K (.ref CXBadDay) (.ref CXBadWeb) = some false) :
    ∃ T : Tx K mg, ∀ (s : Shared) (v : Value), BindsTo s T.law.fd ⟨[v], []⟩ [("_law_script", v)] := by
  refine ⟨{
    is_integer := ⟨fisqinteger, _, fun_mk (st := s_is_integer) lisqinteger cisqinteger kisqinteger, PySem.W.mg_of X G aisqinteger, (fun_mk (st := s_is_integer) lisqinteger cisqinteger kisqinteger).binds (fun _ _ _ _ _ _ us hl => match us, hl with | [_], _ => rfl)⟩
    is_between := ⟨fisqbetween, _, fun_mk (st := s_is_between) lisqbetween cisqbetween kisqbetween, PySem.W.mg_of X G aisqbetween, (fun_mk (st := s_is_between) lisqbetween cisqbetween kisqbetween).binds (fun _ _ _ _ _ _ us hl => match us, hl with | [_, _, _], _ => rfl)⟩
    is_tuple := ⟨fisqtuple, _, fun_mk (st := s_is_tuple) lisqtuple cisqtuple kisqtuple, PySem.W.mg_of X G aisqtuple, (fun_mk (st := s_is_tuple) lisqtuple cisqtuple kisqtuple).binds (fun _ _ _ _ _ _ us hl => match us, hl with | [_, _], _ => rfl)⟩
    is_pair := ⟨fisqpair, _, fun_mk (st := s_is_pair) lisqpair cisqpair kisqpair, PySem.W.mg_of X G aisqpair, (fun_mk (st := s_is_pair) lisqpair cisqpair kisqpair).binds (fun _ _ _ _ _ _ us hl => match us, hl with | [_], _ => rfl)⟩
    are_integers := ⟨fareqintegers, _, fun_mk (st := s_are_integers) lareqintegers careqintegers kareqintegers, PySem.W.mg_of X G aareqintegers, (fun_mk (st := s_are_integers) lareqintegers careqintegers kareqintegers).binds (fun _ _ _ _ _ _ us hl => match us, hl with | [_, _], _ => rfl)⟩
    are_between := ⟨fareqbetween, _, fun_mk (st := s_are_between) lareqbetween careqbetween kareqbetween, PySem.W.mg_of X G aareqbetween, (fun_mk (st := s_are_between) lareqbetween careqbetween kareqbetween).binds (fun _ _ _ _ _ _ us hl => match us, hl with | [_, _, _, _], _ => rfl)⟩
    are_roads := ⟨fareqroads, _, fun_mk (st := s_are_roads) lareqroads careqroads kareqroads, PySem.W.mg_of X G aareqroads, (fun_mk (st := s_are_roads) lareqroads careqroads kareqroads).binds (fun _ _ _ _ _ _ us hl => match us, hl with | [_, _], _ => rfl)⟩
    is_begin_and_end := ⟨fisqbeginqandqend, _, fun_mk (st := s_is_begin_and_end) lisqbeginqandqend cisqbeginqandqend kisqbeginqandqend, PySem.W.mg_of X G aisqbeginqandqend, (fun_mk (st := s_is_begin_and_end) lisqbeginqandqend cisqbeginqandqend kisqbeginqandqend).binds (fun _ _ _ _ _ _ us hl => match us, hl with | [_, _], _ => rfl)⟩
    is_road := ⟨fisqroad, _, fun_mk (st := s_is_road) lisqroad cisqroad kisqroad, PySem.W.mg_of X G aisqroad, (fun_mk (st := s_is_road) lisqroad cisqroad kisqroad).binds (fun _ _ _ _ _ _ us hl => match us, hl with | [_, _], _ => rfl)⟩
    is_way := ⟨fisqway, _, fun_mk (st := s_is_way) lisqway cisqway kisqway, PySem.W.mg_of X G aisqway, (fun_mk (st := s_is_way) lisqway cisqway kisqway).binds (fun _ _ _ _ _ _ us hl => match us, hl with | [_, _], _ => rfl)⟩
    is_letter := ⟨fisqletter, _, fun_mk (st := s_is_letter) lisqletter cisqletter kisqletter, PySem.W.mg_of X G aisqletter, (fun_mk (st := s_is_letter) lisqletter cisqletter kisqletter).binds (fun _ _ _ _ _ _ us hl => match us, hl with | [_, _], _ => rfl)⟩
    are_letters := ⟨fareqletters, _, fun_mk (st := s_are_letters) lareqletters careqletters kareqletters, PySem.W.mg_of X G aareqletters, (fun_mk (st := s_are_letters) lareqletters careqletters kareqletters).binds (fun _ _ _ _ _ _ us hl => match us, hl with | [_, _], _ => rfl)⟩
    are_hours := ⟨fareqhours, _, fun_mk (st := s_are_hours) lareqhours careqhours kareqhours, PySem.W.mg_of X G aareqhours, (fun_mk (st := s_are_hours) lareqhours careqhours kareqhours).binds (fun _ _ _ _ _ _ us hl => match us, hl with | [_, _], _ => rfl)⟩
    first_ticks := ⟨ffirstqticks, _, fun_mk (st := s_first_ticks) lfirstqticks cfirstqticks kfirstqticks, PySem.W.mg_of X G afirstqticks, (fun_mk (st := s_first_ticks) lfirstqticks cfirstqticks kfirstqticks).binds (fun _ _ _ _ _ _ us hl => match us, hl with | [_, _, _], _ => rfl)⟩
    some_early := ⟨fsomeqearly, _, fun_mk (st := s_some_early) lsomeqearly csomeqearly ksomeqearly, PySem.W.mg_of X G asomeqearly, (fun_mk (st := s_some_early) lsomeqearly csomeqearly ksomeqearly).binds (fun _ _ _ _ _ _ us hl => match us, hl with | [_, _, _], _ => rfl)⟩
    some_full := ⟨fsomeqfull, _, fun_mk (st := s_some_full) lsomeqfull csomeqfull ksomeqfull, PySem.W.mg_of X G asomeqfull, (fun_mk (st := s_some_full) lsomeqfull csomeqfull ksomeqfull).binds (fun _ _ _ _ _ _ us hl => match us, hl with | [_, _, _], _ => rfl)⟩
    read_day := ⟨freadqday, _, fun_mk (st := s_read_day) lreadqday creadqday kreadqday, PySem.W.mg_of X G areadqday, (fun_mk (st := s_read_day) lreadqday creadqday kreadqday).binds (fun _ _ _ _ _ _ us hl => match us, hl with | [_], _ => rfl)⟩
    web_of := ⟨fwebqof, _, fun_mk (st := s_web_of) lwebqof cwebqof kwebqof, PySem.W.mg_of X G awebqof, (fun_mk (st := s_web_of) lwebqof cwebqof kwebqof).binds (fun _ _ _ _ _ _ us hl => match us, hl with | [_], _ => rfl)⟩
    rows_of := ⟨frowsqof, _, fun_mk (st := s_rows_of) lrowsqof crowsqof krowsqof, PySem.W.mg_of X G arowsqof, (fun_mk (st := s_rows_of) lrowsqof crowsqof krowsqof).binds (fun _ _ _ _ _ _ us hl => match us, hl with | [_, _], _ => rfl)⟩
    is_form := ⟨fisqform, _, fun_mk (st := s_is_form) lisqform cisqform kisqform, PySem.W.mg_of X G aisqform, (fun_mk (st := s_is_form) lisqform cisqform kisqform).binds (fun _ _ _ _ _ _ us hl => match us, hl with | [_, _], _ => rfl)⟩
    is_number := ⟨fisqnumber, _, fun_mk (st := s_is_number) lisqnumber cisqnumber kisqnumber, PySem.W.mg_of X G aisqnumber, (fun_mk (st := s_is_number) lisqnumber cisqnumber kisqnumber).binds (fun _ _ _ _ _ _ us hl => match us, hl with | [_], _ => rfl)⟩
    _law_hand := ⟨fqlawqhand, _, fun_mk (st := s_law_hand) lqlawqhand cqlawqhand kqlawqhand, PySem.W.mg_of X G aqlawqhand, (fun_mk (st := s_law_hand) lqlawqhand cqlawqhand kqlawqhand).binds (fun _ _ _ _ _ _ us hl => match us, hl with | [_], _ => rfl)⟩
    _law_draw := ⟨fqlawqdraw, _, fun_mk (st := s_law_draw) lqlawqdraw cqlawqdraw kqlawqdraw, PySem.W.mg_of X G aqlawqdraw, (fun_mk (st := s_law_draw) lqlawqdraw cqlawqdraw kqlawqdraw).binds (fun _ _ _ _ _ _ us hl => match us, hl with | [_, _], _ => rfl)⟩
    _law_counts := ⟨fqlawqcounts, _, fun_mk (st := s_law_counts) lqlawqcounts cqlawqcounts kqlawqcounts, PySem.W.mg_of X G aqlawqcounts, (fun_mk (st := s_law_counts) lqlawqcounts cqlawqcounts kqlawqcounts).binds (fun _ _ _ _ _ _ us hl => match us, hl with | [_, _], _ => rfl)⟩
    _law_web := ⟨fqlawqweb, _, fun_mk (st := s_law_web) lqlawqweb cqlawqweb kqlawqweb, PySem.W.mg_of X G aqlawqweb, (fun_mk (st := s_law_web) lqlawqweb cqlawqweb kqlawqweb).binds (fun _ _ _ _ _ _ us hl => match us, hl with | [_, _, _], _ => rfl)⟩
    _law_next := ⟨fqlawqnext, _, fun_mk (st := s_law_next) lqlawqnext cqlawqnext kqlawqnext, PySem.W.mg_of X G aqlawqnext, (fun_mk (st := s_law_next) lqlawqnext cqlawqnext kqlawqnext).binds (fun _ _ _ _ _ _ us hl => match us, hl with | [_, _], _ => rfl)⟩
    _law_way := ⟨fqlawqway, _, fun_mk (st := s_law_way) lqlawqway cqlawqway kqlawqway, PySem.W.mg_of X G aqlawqway, (fun_mk (st := s_law_way) lqlawqway cqlawqway kqlawqway).binds (fun _ _ _ _ _ _ us hl => match us, hl with | [_, _, _], _ => rfl)⟩
    _law_letters := ⟨fqlawqletters, _, fun_mk (st := s_law_letters) lqlawqletters cqlawqletters kqlawqletters, PySem.W.mg_of X G aqlawqletters, (fun_mk (st := s_law_letters) lqlawqletters cqlawqletters kqlawqletters).binds (fun _ _ _ _ _ _ us hl => match us, hl with | [_, _, _, _], _ => rfl)⟩
    _law_ready := ⟨fqlawqready, _, fun_mk (st := s_law_ready) lqlawqready cqlawqready kqlawqready, PySem.W.mg_of X G aqlawqready, (fun_mk (st := s_law_ready) lqlawqready cqlawqready kqlawqready).binds (fun _ _ _ _ _ _ us hl => match us, hl with | [_, _, _], _ => rfl)⟩
    _law_hours := ⟨fqlawqhours, _, fun_mk (st := s_law_hours) lqlawqhours cqlawqhours kqlawqhours, PySem.W.mg_of X G aqlawqhours, (fun_mk (st := s_law_hours) lqlawqhours cqlawqhours kqlawqhours).binds (fun _ _ _ _ _ _ us hl => match us, hl with | [_, _, _], _ => rfl)⟩
    _law_day := ⟨fqlawqday, _, fun_mk (st := s_law_day) lqlawqday cqlawqday kqlawqday, PySem.W.mg_of X G aqlawqday, (fun_mk (st := s_law_day) lqlawqday cqlawqday kqlawqday).binds (fun _ _ _ _ _ _ us hl => match us, hl with | [_, _, _, _, _], _ => rfl)⟩
    _law_web_text := ⟨fqlawqwebqtext, _, fun_mk (st := s_law_web_text) lqlawqwebqtext cqlawqwebqtext kqlawqwebqtext, PySem.W.mg_of X G aqlawqwebqtext, (fun_mk (st := s_law_web_text) lqlawqwebqtext cqlawqwebqtext kqlawqwebqtext).binds (fun _ _ _ _ _ _ us hl => match us, hl with | [_], _ => rfl)⟩
    _law_day_text := ⟨fqlawqdayqtext, _, fun_mk (st := s_law_day_text) lqlawqdayqtext cqlawqdayqtext kqlawqdayqtext, PySem.W.mg_of X G aqlawqdayqtext, (fun_mk (st := s_law_day_text) lqlawqdayqtext cqlawqdayqtext kqlawqdayqtext).binds (fun _ _ _ _ _ _ us hl => match us, hl with | [_, _, _], _ => rfl)⟩
    _law_number := ⟨fqlawqnumber, _, fun_mk (st := s_law_number) lqlawqnumber cqlawqnumber kqlawqnumber, PySem.W.mg_of X G aqlawqnumber, (fun_mk (st := s_law_number) lqlawqnumber cqlawqnumber kqlawqnumber).binds (fun _ _ _ _ _ _ us hl => match us, hl with | [_], _ => rfl)⟩
    _law_line := ⟨fqlawqline, _, fun_mk (st := s_law_line) lqlawqline cqlawqline kqlawqline, PySem.W.mg_of X G aqlawqline, (fun_mk (st := s_law_line) lqlawqline cqlawqline kqlawqline).binds (fun _ _ _ _ _ _ us hl => match us, hl with | [_], _ => rfl)⟩
    _law_wrong := ⟨fqlawqwrong, _, fun_mk (st := s_law_wrong) lqlawqwrong cqlawqwrong kqlawqwrong, PySem.W.mg_of X G aqlawqwrong, (fun_mk (st := s_law_wrong) lqlawqwrong cqlawqwrong kqlawqwrong).binds (fun _ _ _ _ _ _ us hl => match us, hl with | [_, _], _ => rfl)⟩
    _law_web_part := ⟨fqlawqwebqpart, _, fun_mk (st := s_law_web_part) lqlawqwebqpart cqlawqwebqpart kqlawqwebqpart, PySem.W.mg_of X G aqlawqwebqpart, (fun_mk (st := s_law_web_part) lqlawqwebqpart cqlawqwebqpart kqlawqwebqpart).binds (fun _ _ _ _ _ _ us hl => match us, hl with | [_, _], _ => rfl)⟩
    _law_due := ⟨fqlawqdue, _, fun_mk (st := s_law_due) lqlawqdue cqlawqdue kqlawqdue, PySem.W.mg_of X G aqlawqdue, (fun_mk (st := s_law_due) lqlawqdue cqlawqdue kqlawqdue).binds (fun _ _ _ _ _ _ us hl => match us, hl with | [_], _ => rfl)⟩
    _law_day_part := ⟨fqlawqdayqpart, _, fun_mk (st := s_law_day_part) lqlawqdayqpart cqlawqdayqpart kqlawqdayqpart, PySem.W.mg_of X G aqlawqdayqpart, (fun_mk (st := s_law_day_part) lqlawqdayqpart cqlawqdayqpart kqlawqdayqpart).binds (fun _ _ _ _ _ _ us hl => match us, hl with | [_, _], _ => rfl)⟩
    _law_asked := ⟨fqlawqasked, _, fun_mk (st := s_law_asked) lqlawqasked cqlawqasked kqlawqasked, PySem.W.mg_of X G aqlawqasked, (fun_mk (st := s_law_asked) lqlawqasked cqlawqasked kqlawqasked).binds (fun _ _ _ _ _ _ us hl => match us, hl with | [_], _ => rfl)⟩
    _law_word_bent := ⟨fqlawqwordqbent, _, fun_mk (st := s_law_word_bent) lqlawqwordqbent cqlawqwordqbent kqlawqwordqbent, PySem.W.mg_of X G aqlawqwordqbent, (fun_mk (st := s_law_word_bent) lqlawqwordqbent cqlawqwordqbent kqlawqwordqbent).binds (fun _ _ _ _ _ _ us hl => match us, hl with | [_, _], _ => rfl)⟩
    _law_bent := ⟨fqlawqbent, _, fun_mk (st := s_law_bent) lqlawqbent cqlawqbent kqlawqbent, PySem.W.mg_of X G aqlawqbent, (fun_mk (st := s_law_bent) lqlawqbent cqlawqbent kqlawqbent).binds (fun _ _ _ _ _ _ us hl => match us, hl with | [_, _], _ => rfl)⟩
    law := ⟨flaw, _, fun_mk (st := s_law) llaw claw klaw, PySem.W.mg_of X G alaw, (fun_mk (st := s_law) llaw claw klaw).binds (fun _ _ _ _ _ _ us hl => match us, hl with | [_], _ => rfl)⟩
    c_MOST_HOUSES := ⟨_, PySem.W.mg_of X G aMOSTqHOUSES⟩
    c_MOST_ROADS := ⟨_, PySem.W.mg_of X G aMOSTqROADS⟩
    c_MOST_ROOMS := ⟨_, PySem.W.mg_of X G aMOSTqROOMS⟩
    c_LONGEST_TIME := ⟨_, PySem.W.mg_of X G aLONGESTqTIME⟩
    c_LONGEST_WAY := ⟨_, PySem.W.mg_of X G aLONGESTqWAY⟩
    c_MOST_LETTERS := ⟨_, PySem.W.mg_of X G aMOSTqLETTERS⟩
    c_LAST_TICK := ⟨_, PySem.W.mg_of X G aLASTqTICK⟩
    c_MOST_FIGURES := ⟨_, PySem.W.mg_of X G aMOSTqFIGURES⟩
    c_FIGURES := ⟨_, PySem.W.mg_of X G aFIGURES⟩
    Web := ⟨CWWeb, fWWeb, _, fun_mk (st := s_Web___init) lWWeb cWWeb kWWeb, PySem.W.mg_of X G aWWeb, (fun_mk (st := s_Web___init) lWWeb cWWeb kWWeb).binds (fun _ _ _ _ _ _ us hl => match us, hl with | [_, _, _, _, _], _ => rfl), ⟨mkWWeb, iWWeb, yWWeb, kcWWeb⟩, ⟨pgWWeb, hdWWeb, poWWeb, saWWeb⟩, by intro x hx; simp only [List.mem_cons, List.not_mem_nil, or_false] at hx; rcases hx with rfl | rfl | rfl | rfl <;> assumption⟩
    Day := ⟨CWDay, fWDay, _, fun_mk (st := s_Day___init) lWDay cWDay kWDay, PySem.W.mg_of X G aWDay, (fun_mk (st := s_Day___init) lWDay cWDay kWDay).binds (fun _ _ _ _ _ _ us hl => match us, hl with | [_, _, _, _], _ => rfl), ⟨mkWDay, iWDay, yWDay, kcWDay⟩, ⟨pgWDay, hdWDay, poWDay, saWDay⟩, by intro x hx; simp only [List.mem_cons, List.not_mem_nil, or_false] at hx; rcases hx with rfl | rfl | rfl <;> assumption⟩
    x_BadWeb := ⟨CXBadWeb, fXBadWeb, _, fun_mk (st := s_BadWeb___init) lXBadWeb cXBadWeb kXBadWeb, PySem.W.mg_of X G aXBadWeb, (fun_mk (st := s_BadWeb___init) lXBadWeb cXBadWeb kXBadWeb).binds (fun _ _ _ _ _ _ us hl => match us, hl with | [_, _], _ => rfl), ⟨⟨_, _, _, _, _, _, _, _, _, _, _, _, _, _, _, xXBadWeb, bmXBadWebo⟩, saXBadWeb, exXBadWeb, tyXBadWeb, kcXBadWeb⟩, iXBadWeb, yXBadWeb, ⟨gaXBadWeb, ggXBadWeb, exXBadWeb, hdXBadWeb⟩, exm_self exXBadWeb icXBadWeb tyXBadWeb suXBadWeb, (fun x hx => by simp only [List.mem_cons, List.not_mem_nil, or_false] at hx; rcases hx with rfl <;> assumption)⟩
    x_BadDay := ⟨CXBadDay, fXBadDay, _, fun_mk (st := s_BadDay___init) lXBadDay cXBadDay kXBadDay, PySem.W.mg_of X G aXBadDay, (fun_mk (st := s_BadDay___init) lXBadDay cXBadDay kXBadDay).binds (fun _ _ _ _ _ _ us hl => match us, hl with | [_, _], _ => rfl), ⟨⟨_, _, _, _, _, _, _, _, _, _, _, _, _, _, _, xXBadDay, bmXBadDayo⟩, saXBadDay, exXBadDay, tyXBadDay, kcXBadDay⟩, iXBadDay, yXBadDay, ⟨gaXBadDay, ggXBadDay, exXBadDay, hdXBadDay⟩, exm_self exXBadDay icXBadDay tyXBadDay suXBadDay, (fun x hx => by simp only [List.mem_cons, List.not_mem_nil, or_false] at hx; rcases hx with rfl <;> assumption)⟩
    x_BadText := ⟨CXBadText, fXBadText, _, fun_mk (st := s_BadText___init) lXBadText cXBadText kXBadText, PySem.W.mg_of X G aXBadText, (fun_mk (st := s_BadText___init) lXBadText cXBadText kXBadText).binds (fun _ _ _ _ _ _ us hl => match us, hl with | [_, _], _ => rfl), ⟨⟨_, _, _, _, _, _, _, _, _, _, _, _, _, _, _, xXBadText, bmXBadTexto⟩, saXBadText, exXBadText, tyXBadText, kcXBadText⟩, iXBadText, yXBadText, ⟨gaXBadText, ggXBadText, exXBadText, hdXBadText⟩, exm_self exXBadText icXBadText tyXBadText suXBadText, (fun x hx => by simp only [List.mem_cons, List.not_mem_nil, or_false] at hx; rcases hx with rfl <;> assumption)⟩
    n_isinstance := PySem.W.mg_none_of X G anqisinstance
    n_int := PySem.W.mg_none_of X G anqint
    n_bool := PySem.W.mg_none_of X G anqbool
    n_str := PySem.W.mg_none_of X G anqstr
    n_tuple := PySem.W.mg_none_of X G anqtuple
    n_list := PySem.W.mg_none_of X G anqlist
    n_len := PySem.W.mg_none_of X G anqlen
    n_all := PySem.W.mg_none_of X G anqall
    n_any := PySem.W.mg_none_of X G anqany
    n_abs := PySem.W.mg_none_of X G anqabs
    n_range := PySem.W.mg_none_of X G anqrange
    n_zip := PySem.W.mg_none_of X G anqzip
    n_enumerate := PySem.W.mg_none_of X G anqenumerate
    n_sorted := PySem.W.mg_none_of X G anqsorted
    g_HourError := ⟨_, PySem.W.mg_of X G aGHourError⟩
    d_BadWeb_BadText := exm_two exXBadText icXBadText tyXBadText suBadWebBadText
    d_BadDay_BadText := exm_two exXBadText icXBadText tyXBadText suBadDayBadText
    d_BadDay_BadWeb := exm_two exXBadWeb icXBadWeb tyXBadWeb suBadDayBadWeb
  }, fun s v => .of_eq rfl⟩

theorem beh_mk {K : PySem.W.Frag} {h : Heap} {mg : Str → Option Value} {w : World} (X : K.In h) (G : h.Ns mainGlobals mg) {S t0 t1 t2 t3 : Addr} {es : Array DictEntry} {n : Nat}
    {d0 d1 d2 d3 : Option Addr} {n0 n1 n2 n3 : Nat} {sl0 sl1 sl2 sl3 : Array (Option Value)} {k0 k1 k2 k3 k4 : Tok}
    (a : PySem.W.nsIn K mainGlobals "BEHIND" = some (some (.ref S))) (l : K.lookup S = some ⟨.type "dict", none, .dict es n, #[]⟩)
    (e0 : PySem.W.nsIn K S "" = some (some (.ref t0))) (e1 : PySem.W.nsIn K S "web" = some (some (.ref t1))) (e2 : PySem.W.nsIn K S "road" = some (some (.ref t2))) (e3 : PySem.W.nsIn K S "letter" = some (some (.ref t3)))
    (l0 : K.lookup t0 = some ⟨.type "tuple", d0, .seq #[.str "web" k0] n0, sl0⟩) (l1 : K.lookup t1 = some ⟨.type "tuple", d1, .seq #[.str "road" k1] n1, sl1⟩)
    (l2 : K.lookup t2 = some ⟨.type "tuple", d2, .seq #[.str "road" k2, .str "letter" k3] n2, sl2⟩) (l3 : K.lookup t3 = some ⟨.type "tuple", d3, .seq #[.str "letter" k4] n3, sl3⟩)
    (hk : PySem.W.KeysLit w.params es.toList) : BehF K mg w := by
  refine ⟨S, PySem.W.mg_of X G a, fun k hk' => ?_⟩
  unfold KEYS at hk'
  simp only [List.mem_cons, List.not_mem_nil, or_false] at hk'
  rcases hk' with rfl | rfl | rfl | rfl
  · exact ⟨t0, ⟨es, n, _, l, hk, e0, rfl⟩, fun H => by rw [beh0]; exact .inr ⟨_, _, _, l0, rfl, rfl, (by show 1 ≤ sizeLine; decide), .cons ⟨_, rfl⟩ .nil⟩⟩
  · exact ⟨t1, ⟨es, n, _, l, hk, e1, rfl⟩, fun H => by rw [beh1]; exact .inr ⟨_, _, _, l1, rfl, rfl, (by show 1 ≤ sizeLine; decide), .cons ⟨_, rfl⟩ .nil⟩⟩
  · exact ⟨t2, ⟨es, n, _, l, hk, e2, rfl⟩, fun H => by rw [beh2]; exact .inr ⟨_, _, _, l2, rfl, rfl, (by show 2 ≤ sizeLine; decide), .cons ⟨_, rfl⟩ (.cons ⟨_, rfl⟩ .nil)⟩⟩
  · exact ⟨t3, ⟨es, n, _, l, hk, e3, rfl⟩, fun H => by rw [beh3]; exact .inr ⟨_, _, _, l3, rfl, rfl, (by show 1 ≤ sizeLine; decide), .cons ⟨_, rfl⟩ .nil⟩⟩
theorem fin {l : PySem.W.OpenLaw} {w : World} {K : PySem.W.Frag} {mg : Str → Option Value} {fa : Addr} (hfa : mg "law" = some (.ref fa)) (h : ∃ T : Tx K mg, ∀ (s : Shared) (v : Value), BindsTo s T.law.fd ⟨[v], []⟩ [("_law_script", v)]) (hB : BehF K mg w) :
    ∃ fd : FuncData, (∀ (s : Shared) (v : Value), BindsTo s fd ⟨[v], []⟩ [("_law_script", v)]) ∧ ∀ base : Heap, K.In base → base.Ns mainGlobals mg → FnOk l.prog w K mg base CX0 14 fa fd ["_law_script"] (spLaw K) := by
  obtain ⟨T, b⟩ := h
  have e := hfa.symm.trans T.law.g
  cases e
  exact ⟨T.law.fd, b, fun base _ _ => ok_law T hB⟩
theorem walk {l : PySem.W.OpenLaw} {q : Program} {loose : List Str} {XP : (Str → Option Value) → Heap → Prop} {YP : World → Heap → Prop} {d : DefRec} {K : Params → PySem.W.Frag} (hn : l.most = some 63) (hdf : d.params.defaults = [])
    (hY : ∀ (w : World) (h : Heap), YP w h → (K w.params).In h)
    (F : ∀ (w : World) (mg : Str → Option Value) (fa : Addr) (h : Heap), (K w.params).In h → h.Ns mainGlobals mg → mg d.name = some (.ref fa) →
      ∃ fd : FuncData, (∀ (s : Shared) (u : Value), BindsTo s fd ⟨[u], []⟩ [("_law_script", u)]) ∧ ∀ base : Heap, (K w.params).In base → base.Ns mainGlobals mg → FnOk l.prog w (K w.params) mg base CX0 14 fa fd ["_law_script"] (spLaw (K w.params))) :
    PySem.W.WalkO q loose XP YP l.row.toRowW d [] (fun f vs => PySem.call f vs) :=
  L2.walk_of (n := 63) (k := 14) (x := "_law_script") (CX := fun _ => CX0) (sp := fun w => spLaw (K w.params)) hn (by decide) hdf ⟨rfl, by decide, by decide⟩ hY F (fun _ _ a ns hl _ hS => ⟨a, ns, rfl, hS, hl, fun _ => rfl⟩) fun _ _ _ _ _ z => z
end Hc


set_option Elab.async false
set_option linter.all false
open PySem PySem.W PyProof.Rows
set_option maxRecDepth 100000 in
set_option maxHeartbeats 0 in
theorem PySem.Challenge.cw_hourcards_k18_first_wrong_lines_of_days_holds : PySem.Challenge.rw_hourcards_k18_first_wrong_lines_of_days.Holds := by
  w_on; o_law; k_head; (case hw => w_witness2)
  k_fill
  refine Hc.walk (l := PySem.Challenge.rw_hourcards_k18_first_wrong_lines_of_days) rfl rfl (fun w h Y => PySem.W.kIn_of Y) ?F
  case F =>
    intro w mg fa h KX G hmg
    refine Hc.fin hmg ?T ?B
    (case B => (refine' Hc.beh_mk (w := w) KX G ?ba ?bl ?be0 ?be1 ?be2 ?be3 ?bl0 ?bl1 ?bl2 ?bl3 ?bk; (case ba => k_is); (case bl => k_is); (case be0 => k_is); (case be1 => k_is); (case be2 => k_is); (case be3 => k_is); (case bl0 => k_is); (case bl1 => k_is); (case bl2 => k_is); (case bl3 => k_is); (case bk => exact ⟨⟨_, _, rfl, rfl⟩, ⟨_, _, rfl, rfl⟩, ⟨_, _, rfl, rfl⟩, ⟨_, _, rfl, rfl⟩, trivial⟩)))
    refine' Hc.tx_mk KX G ?aisqinteger ?lisqinteger ?cisqinteger ?kisqinteger ?aisqbetween ?lisqbetween ?cisqbetween ?kisqbetween ?aisqtuple ?lisqtuple ?cisqtuple ?kisqtuple ?aisqpair ?lisqpair ?cisqpair ?kisqpair ?aareqintegers ?lareqintegers ?careqintegers ?kareqintegers ?aareqbetween ?lareqbetween ?careqbetween ?kareqbetween ?aareqroads ?lareqroads ?careqroads ?kareqroads ?aisqbeginqandqend ?lisqbeginqandqend ?cisqbeginqandqend ?kisqbeginqandqend ?aisqroad ?lisqroad ?cisqroad ?kisqroad ?aisqway ?lisqway ?cisqway ?kisqway ?aisqletter ?lisqletter ?cisqletter ?kisqletter ?aareqletters ?lareqletters ?careqletters ?kareqletters ?aareqhours ?lareqhours ?careqhours ?kareqhours ?afirstqticks ?lfirstqticks ?cfirstqticks ?kfirstqticks ?asomeqearly ?lsomeqearly ?csomeqearly ?ksomeqearly ?asomeqfull ?lsomeqfull ?csomeqfull ?ksomeqfull ?areadqday ?lreadqday ?creadqday ?kreadqday ?awebqof ?lwebqof ?cwebqof ?kwebqof ?arowsqof ?lrowsqof ?crowsqof ?krowsqof ?aisqform ?lisqform ?cisqform ?kisqform ?aisqnumber ?lisqnumber ?cisqnumber ?kisqnumber ?aqlawqhand ?lqlawqhand ?cqlawqhand ?kqlawqhand ?aqlawqdraw ?lqlawqdraw ?cqlawqdraw ?kqlawqdraw ?aqlawqcounts ?lqlawqcounts ?cqlawqcounts ?kqlawqcounts ?aqlawqweb ?lqlawqweb ?cqlawqweb ?kqlawqweb ?aqlawqnext ?lqlawqnext ?cqlawqnext ?kqlawqnext ?aqlawqway ?lqlawqway ?cqlawqway ?kqlawqway ?aqlawqletters ?lqlawqletters ?cqlawqletters ?kqlawqletters ?aqlawqready ?lqlawqready ?cqlawqready ?kqlawqready ?aqlawqhours ?lqlawqhours ?cqlawqhours ?kqlawqhours ?aqlawqday ?lqlawqday ?cqlawqday ?kqlawqday ?aqlawqwebqtext ?lqlawqwebqtext ?cqlawqwebqtext ?kqlawqwebqtext ?aqlawqdayqtext ?lqlawqdayqtext ?cqlawqdayqtext ?kqlawqdayqtext ?aqlawqnumber ?lqlawqnumber ?cqlawqnumber ?kqlawqnumber ?aqlawqline ?lqlawqline ?cqlawqline ?kqlawqline ?aqlawqwrong ?lqlawqwrong ?cqlawqwrong ?kqlawqwrong ?aqlawqwebqpart ?lqlawqwebqpart ?cqlawqwebqpart ?kqlawqwebqpart ?aqlawqdue ?lqlawqdue ?cqlawqdue ?kqlawqdue ?aqlawqdayqpart ?lqlawqdayqpart ?cqlawqdayqpart ?kqlawqdayqpart ?aqlawqasked ?lqlawqasked ?cqlawqasked ?kqlawqasked ?aqlawqwordqbent ?lqlawqwordqbent ?cqlawqwordqbent ?kqlawqwordqbent ?aqlawqbent ?lqlawqbent ?cqlawqbent ?kqlawqbent ?alaw ?llaw ?claw ?klaw ?aMOSTqHOUSES ?aMOSTqROADS ?aMOSTqROOMS ?aLONGESTqTIME ?aLONGESTqWAY ?aMOSTqLETTERS ?aLASTqTICK ?aMOSTqFIGURES ?aFIGURES ?aWWeb ?iWWeb ?yWWeb ?lWWeb ?cWWeb ?kWWeb ?pgWWeb ?hdWWeb ?poWWeb ?saWWeb ?mkWWeb ?kcWWeb ?naWWebhouses ?naWWebroads ?naWWebrooms ?naWWebtimes ?aWDay ?iWDay ?yWDay ?lWDay ?cWDay ?kWDay ?pgWDay ?hdWDay ?poWDay ?saWDay ?mkWDay ?kcWDay ?naWDayweb ?naWDayletters ?naWDayhours ?aXBadWeb ?xXBadWeb ?bmXBadWebo ?saXBadWeb ?gaXBadWeb ?ggXBadWeb ?iXBadWeb ?yXBadWeb ?lXBadWeb ?cXBadWeb ?kXBadWeb ?kcXBadWeb ?exXBadWeb ?tyXBadWeb ?hdXBadWeb ?icXBadWeb ?suXBadWeb ?naXBadWebpart ?aXBadDay ?xXBadDay ?bmXBadDayo ?saXBadDay ?gaXBadDay ?ggXBadDay ?iXBadDay ?yXBadDay ?lXBadDay ?cXBadDay ?kXBadDay ?kcXBadDay ?exXBadDay ?tyXBadDay ?hdXBadDay ?icXBadDay ?suXBadDay ?naXBadDaypart ?aXBadText ?xXBadText ?bmXBadTexto ?saXBadText ?gaXBadText ?ggXBadText ?iXBadText ?yXBadText ?lXBadText ?cXBadText ?kXBadText ?kcXBadText ?exXBadText ?tyXBadText ?hdXBadText ?icXBadText ?suXBadText ?naXBadTextline ?anqisinstance ?anqint ?anqbool ?anqstr ?anqtuple ?anqlist ?anqlen ?anqall ?anqany ?anqabs ?anqrange ?anqzip ?anqenumerate ?anqsorted ?aGHourError ?suBadWebBadText ?suBadDayBadText ?suBadDayBadWeb
    (case aisqinteger => k_is)
    (case lisqinteger => k_is)
    (case cisqinteger => k_is)
    (case kisqinteger => k_is)
    (case aisqbetween => k_is)
    (case lisqbetween => k_is)
    (case cisqbetween => k_is)
    (case kisqbetween => k_is)
    (case aisqtuple => k_is)
    (case lisqtuple => k_is)
    (case cisqtuple => k_is)
    (case kisqtuple => k_is)
    (case aisqpair => k_is)
    (case lisqpair => k_is)
    (case cisqpair => k_is)
    (case kisqpair => k_is)
    (case aareqintegers => k_is)
    (case lareqintegers => k_is)
    (case careqintegers => k_is)
    (case kareqintegers => k_is)
    (case aareqbetween => k_is)
    (case lareqbetween => k_is)
    (case careqbetween => k_is)
    (case kareqbetween => k_is)
    (case aareqroads => k_is)
    (case lareqroads => k_is)
    (case careqroads => k_is)
    (case kareqroads => k_is)
    (case aisqbeginqandqend => k_is)
    (case lisqbeginqandqend => k_is)
    (case cisqbeginqandqend => k_is)
    (case kisqbeginqandqend => k_is)
    (case aisqroad => k_is)
    (case lisqroad => k_is)
    (case cisqroad => k_is)
    (case kisqroad => k_is)
    (case aisqway => k_is)
    (case lisqway => k_is)
    (case cisqway => k_is)
    (case kisqway => k_is)
    (case aisqletter => k_is)
    (case lisqletter => k_is)
    (case cisqletter => k_is)
    (case kisqletter => k_is)
    (case aareqletters => k_is)
    (case lareqletters => k_is)
    (case careqletters => k_is)
    (case kareqletters => k_is)
    (case aareqhours => k_is)
    (case lareqhours => k_is)
    (case careqhours => k_is)
    (case kareqhours => k_is)
    (case afirstqticks => k_is)
    (case lfirstqticks => k_is)
    (case cfirstqticks => k_is)
    (case kfirstqticks => first | k_is | rfl | decide +kernel)
    (case asomeqearly => k_is)
    (case lsomeqearly => k_is)
    (case csomeqearly => k_is)
    (case ksomeqearly => k_is)
    (case asomeqfull => k_is)
    (case lsomeqfull => k_is)
    (case csomeqfull => k_is)
    (case ksomeqfull => k_is)
    (case areadqday => k_is)
    (case lreadqday => k_is)
    (case creadqday => k_is)
    (case kreadqday => k_is)
    (case awebqof => k_is)
    (case lwebqof => k_is)
    (case cwebqof => k_is)
    (case kwebqof => k_is)
    (case arowsqof => k_is)
    (case lrowsqof => k_is)
    (case crowsqof => k_is)
    (case krowsqof => k_is)
    (case aisqform => k_is)
    (case lisqform => k_is)
    (case cisqform => k_is)
    (case kisqform => k_is)
    (case aisqnumber => k_is)
    (case lisqnumber => k_is)
    (case cisqnumber => k_is)
    (case kisqnumber => k_is)
    (case aqlawqhand => k_is)
    (case lqlawqhand => k_is)
    (case cqlawqhand => k_is)
    (case kqlawqhand => k_is)
    (case aqlawqdraw => k_is)
    (case lqlawqdraw => k_is)
    (case cqlawqdraw => k_is)
    (case kqlawqdraw => k_is)
    (case aqlawqcounts => k_is)
    (case lqlawqcounts => k_is)
    (case cqlawqcounts => k_is)
    (case kqlawqcounts => k_is)
    (case aqlawqweb => k_is)
    (case lqlawqweb => k_is)
    (case cqlawqweb => k_is)
    (case kqlawqweb => k_is)
    (case aqlawqnext => k_is)
    (case lqlawqnext => k_is)
    (case cqlawqnext => k_is)
    (case kqlawqnext => k_is)
    (case aqlawqway => k_is)
    (case lqlawqway => k_is)
    (case cqlawqway => k_is)
    (case kqlawqway => k_is)
    (case aqlawqletters => k_is)
    (case lqlawqletters => k_is)
    (case cqlawqletters => k_is)
    (case kqlawqletters => k_is)
    (case aqlawqready => k_is)
    (case lqlawqready => k_is)
    (case cqlawqready => k_is)
    (case kqlawqready => k_is)
    (case aqlawqhours => k_is)
    (case lqlawqhours => k_is)
    (case cqlawqhours => k_is)
    (case kqlawqhours => k_is)
    (case aqlawqday => k_is)
    (case lqlawqday => k_is)
    (case cqlawqday => k_is)
    (case kqlawqday => k_is)
    (case aqlawqwebqtext => k_is)
    (case lqlawqwebqtext => k_is)
    (case cqlawqwebqtext => k_is)
    (case kqlawqwebqtext => k_is)
    (case aqlawqdayqtext => k_is)
    (case lqlawqdayqtext => k_is)
    (case cqlawqdayqtext => k_is)
    (case kqlawqdayqtext => k_is)
    (case aqlawqnumber => k_is)
    (case lqlawqnumber => k_is)
    (case cqlawqnumber => k_is)
    (case kqlawqnumber => k_is)
    (case aqlawqline => k_is)
    (case lqlawqline => k_is)
    (case cqlawqline => k_is)
    (case kqlawqline => k_is)
    (case aqlawqwrong => k_is)
    (case lqlawqwrong => k_is)
    (case cqlawqwrong => k_is)
    (case kqlawqwrong => k_is)
    (case aqlawqwebqpart => k_is)
    (case lqlawqwebqpart => k_is)
    (case cqlawqwebqpart => k_is)
    (case kqlawqwebqpart => k_is)
    (case aqlawqdue => k_is)
    (case lqlawqdue => k_is)
    (case cqlawqdue => k_is)
    (case kqlawqdue => k_is)
    (case aqlawqdayqpart => k_is)
    (case lqlawqdayqpart => k_is)
    (case cqlawqdayqpart => k_is)
    (case kqlawqdayqpart => k_is)
    (case aqlawqasked => k_is)
    (case lqlawqasked => k_is)
    (case cqlawqasked => k_is)
    (case kqlawqasked => k_is)
    (case aqlawqwordqbent => k_is)
    (case lqlawqwordqbent => k_is)
    (case cqlawqwordqbent => k_is)
    (case kqlawqwordqbent => k_is)
    (case aqlawqbent => k_is)
    (case lqlawqbent => k_is)
    (case cqlawqbent => k_is)
    (case kqlawqbent => k_is)
    (case alaw => k_is)
    (case llaw => k_is)
    (case claw => k_is)
    (case klaw => k_is)
    (case aMOSTqHOUSES => k_is)
    (case aMOSTqROADS => k_is)
    (case aMOSTqROOMS => k_is)
    (case aLONGESTqTIME => k_is)
    (case aLONGESTqWAY => k_is)
    (case aMOSTqLETTERS => k_is)
    (case aLASTqTICK => k_is)
    (case aMOSTqFIGURES => k_is)
    (case aFIGURES => k_is)
    (case aWWeb => k_is)
    (case iWWeb => k_is)
    (case yWWeb => k_is)
    (case lWWeb => k_is)
    (case cWWeb => k_is)
    (case kWWeb => k_is)
    (case pgWWeb => k_is)
    (case hdWWeb => k_is)
    (case poWWeb => k_is)
    (case saWWeb => k_is)
    (case mkWWeb => k_is)
    (case kcWWeb => k_is)
    (case naWWebhouses => k_is)
    (case naWWebroads => k_is)
    (case naWWebrooms => k_is)
    (case naWWebtimes => k_is)
    (case aWDay => k_is)
    (case iWDay => k_is)
    (case yWDay => k_is)
    (case lWDay => k_is)
    (case cWDay => k_is)
    (case kWDay => k_is)
    (case pgWDay => k_is)
    (case hdWDay => k_is)
    (case poWDay => k_is)
    (case saWDay => k_is)
    (case mkWDay => k_is)
    (case kcWDay => k_is)
    (case naWDayweb => k_is)
    (case naWDayletters => k_is)
    (case naWDayhours => k_is)
    (case aXBadWeb => k_is)
    (case xXBadWeb => k_is)
    (case bmXBadWebo => decide +kernel)
    (case saXBadWeb => k_is)
    (case gaXBadWeb => k_is)
    (case ggXBadWeb => k_is)
    (case iXBadWeb => k_is)
    (case yXBadWeb => k_is)
    (case lXBadWeb => k_is)
    (case cXBadWeb => k_is)
    (case kXBadWeb => k_is)
    (case kcXBadWeb => k_is)
    (case exXBadWeb => k_is)
    (case tyXBadWeb => k_is)
    (case hdXBadWeb => k_is)
    (case icXBadWeb => k_is)
    (case suXBadWeb => first | rfl | k_is)
    (case naXBadWebpart => k_is)
    (case aXBadDay => k_is)
    (case xXBadDay => k_is)
    (case bmXBadDayo => decide +kernel)
    (case saXBadDay => k_is)
    (case gaXBadDay => k_is)
    (case ggXBadDay => k_is)
    (case iXBadDay => k_is)
    (case yXBadDay => k_is)
    (case lXBadDay => k_is)
    (case cXBadDay => k_is)
    (case kXBadDay => k_is)
    (case kcXBadDay => k_is)
    (case exXBadDay => k_is)
    (case tyXBadDay => k_is)
    (case hdXBadDay => k_is)
    (case icXBadDay => k_is)
    (case suXBadDay => first | rfl | k_is)
    (case naXBadDaypart => k_is)
    (case aXBadText => k_is)
    (case xXBadText => k_is)
    (case bmXBadTexto => decide +kernel)
    (case saXBadText => k_is)
    (case gaXBadText => k_is)
    (case ggXBadText => k_is)
    (case iXBadText => k_is)
    (case yXBadText => k_is)
    (case lXBadText => k_is)
    (case cXBadText => k_is)
    (case kXBadText => k_is)
    (case kcXBadText => k_is)
    (case exXBadText => k_is)
    (case tyXBadText => k_is)
    (case hdXBadText => k_is)
    (case icXBadText => k_is)
    (case suXBadText => first | rfl | k_is)
    (case naXBadTextline => k_is)
    (case anqisinstance => k_is)
    (case anqint => k_is)
    (case anqbool => k_is)
    (case anqstr => k_is)
    (case anqtuple => k_is)
    (case anqlist => k_is)
    (case anqlen => k_is)
    (case anqall => k_is)
    (case anqany => k_is)
    (case anqabs => k_is)
    (case anqrange => k_is)
    (case anqzip => k_is)
    (case anqenumerate => k_is)
    (case anqsorted => k_is)
    (case aGHourError => k_is)
    (case suBadWebBadText => first | rfl | k_is)
    (case suBadDayBadText => first | rfl | k_is)
    (case suBadDayBadWeb => first | rfl | k_is)

