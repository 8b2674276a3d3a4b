import PyProof.Rows.All
import Wide.All
import OpenK.AllK
import Wide.FinOn
import HandS.ForMost
import HandS.ForExc
import HandS.ExcInit
import HandS.ExcField
import HandS.IsInst
import HandS.Style
import HandS.Flt
import HandS.TupAny
import HandS.Wide
import HandS.Property
import HandS.Gcd
import HandS.Defaults
import HandS.MakeKw
import HandS.MakeKwOnly
import HandS.Small
import HandS.SlotsOwn
import KE.KOpsOwn
import KE.KExcIs
import HandS.Conv
import HandS.SortRule
import HandS.ExcIs
import HandS.ExcValue
import PyProof.ReprRoads
import HandS.Text
import HandS.StrMore
import PySem.Challenge.RW_widestkind_k02_ratios
set_option Elab.async false
set_option linter.all false
set_option maxRecDepth 100000
namespace U
open PySem PySem.Spec PyProof.Rows L2
/-- a module's name that holds a plain value or an object of the written part -/
def MgV (mg : Str → Option Value) (x : Str) (v : V) : Prop := ∃ u, mg x = some u ∧ RelV v u
theorem pe_con_ {X : Cx} {x : Str} {v : V} {pos : Pos} (h : MgV X.mg x v) (hg : Gl X x := by rfl) (hd : (x == ("__debug__" : Str)) = false := by decide) : PE X (.Name x pos) (tC v) := by
  obtain ⟨u, hm, r⟩ := h
  exact pe_glob hg hm r hd
/-- written texts in a tuple of the written part -/
theorem strsV (ss : List Str) (us : List Value) (h : Paired (fun (s : Str) (u : Value) => ∃ t, u = .str s t) ss us) : Vals (ss.map V.str) us := by
  induction h with
  | nil => exact .nil
  | cons a _ ih => exact .cons a ih
theorem exm_self {K : PySem.W.Frag} {S : Addr} (h1 : PySem.W.subIn K (.ref S) (.type "BaseException") = some true) (h2 : PySem.W.isClsIn K S = true) (h3 : PySem.W.typeIn K (.ref S) = some (.type "type")) (h4 : PySem.W.subIn K (.ref S) (.ref S) = some true) :
    PySem.W.exmOne K (.ref S) (.ref S) = some true := by
  have e1 : (PySem.W.subIn K (.ref S) (.type "BaseException") == some true) = true := by rw [h1] <;> rfl
  have e2 : ((PySem.W.clsIn K S).isSome && PySem.W.typeIn K (.ref S) == some (.type "type")) = true := by
    have h2' : (PySem.W.clsIn K S).isSome = true := h2
    rw [h2', h3] <;> rfl
  show (if (PySem.W.subIn K (.ref S) (.type "BaseException") == some true) = true then (if ((PySem.W.clsIn K S).isSome && PySem.W.typeIn K (.ref S) == some (.type "type")) = true then PySem.W.subIn K (.ref S) (.ref S) else none) else none) = some true
  rw [if_pos e1, if_pos e2]
  exact h4
section
variable {X : Cx} {K : PySem.W.Frag}
theorem kOr2 {X : Cx} {f : Value → Value → Sem Value} {r r' : R2} (h : OpR X f r) (e : r = r') : OpR X f r' := e ▸ h
def uAdd {X : Cx} := (op_add (X := X)).or (op_add_str.or op_cat)
def uMul {X : Cx} := op_mul (X := X)
def uLt {X : Cx} := (op_lt (X := X)).or op_lt_str
def uLe {X : Cx} := (op_le (X := X)).or op_le_str
def uGt {X : Cx} := (op_gt (X := X)).or op_gt_str
def uGe {X : Cx} := (op_ge (X := X)).or op_ge_str
def rEqU (K : PySem.W.Frag) : R2 := fun x y H Q => rEq x y H Q ∨ rEqD K x y H Q
def rNeU (K : PySem.W.Frag) : R2 := fun x y H Q => rNe x y H Q ∨ rNeD K x y H Q
theorem uEq (hK : X.K = K) (hu : X.A.units + 64 < cLine) : OpR X (compareOp .Eq) (rEqU K) := by
  subst hK
  exact (op_eq (X := X)).or (op_eqD hu)
theorem uNe (hK : X.K = K) (hu : X.A.units + 64 < cLine) : OpR X (compareOp .NotEq) (rNeU K) := by
  subst hK
  exact (op_ne (X := X)).or (op_neD hu)
def rInSg : R2 := fun x y H Q => ∃ (c : Nat) (z : Str), x = .str ⟨#[c]⟩ ∧ y = .str z ∧ Q (.bl (decide (c ∈ z.cps.toList))) H
def rNotInSg : R2 := fun x y H Q => ∃ (c : Nat) (z : Str), x = .str ⟨#[c]⟩ ∧ y = .str z ∧ Q (.bl (!decide (c ∈ z.cps.toList))) H
def rInU (K : PySem.W.Frag) : R2 := fun x y H Q => rInSg x y H Q ∨ rIn K false x y H Q
def rNotInU (K : PySem.W.Frag) : R2 := fun x y H Q => rNotInSg x y H Q ∨ rIn K true x y H Q
theorem uIn (hK : X.K = K) : OpR X (compareOp .In) (rInU K) := by
  subst hK
  exact (op_in_sign (X := X)).or op_in_seq
theorem uNotIn (hK : X.K = K) : OpR X (compareOp .NotIn) (rNotInU K) := by
  subst hK
  exact (op_notIn_sign (X := X)).or op_notIn_seq
def rSlU (K : PySem.W.Frag) : V → Option Int → Option Int → Hp → VK → Prop := fun x lo hi H Q => rSlS x lo hi H Q ∨ rSlL K x lo hi H Q
theorem uSl (hK : X.K = K) : SlR X (rSlU K) := by
  subst hK
  exact (sl_str (X := X)).or sl_list
def rLenU (K : PySem.W.Frag) : List V → Hp → VK → Prop := fun xs H Q => (∃ z, xs = [.str z] ∧ z.length ≤ sizeLine ∧ Q (.int z.length) H) ∨ ∃ p ys, xs = [.ref p] ∧ (SqL K H p ys ∨ SqT K H p ys) ∧ Q (.int ys.length) H
theorem uLen (hK : X.K = K) : CallR X (.builtin "len") (rLenU K) := by
  subst hK
  exact (call_len_str (X := X)).or call_len_seq
theorem uIx (hK : X.K = K) : IxR X (rIx K) := by
  subst hK
  exact ix_seq
theorem uSum (hK : X.K = K) (hc : X.calm = true) : CallR X (.builtin "sum") (rSum K) := by
  subst hK
  exact cr_sum hc
def call_max3 {X : Cx} (hc : X.calm = true) := call_max3Nu hc
end
theorem ifT {c A B : Prop} [Decidable c] (hc : c) (h : A) : if decide c = true then A else B := by
  rw [decide_eq_true hc, if_pos rfl]
  exact h
theorem ifF {c A B : Prop} [Decidable c] (hc : ¬ c) (h : B) : if decide c = true then A else B := by
  rw [decide_eq_false hc, if_neg Bool.false_ne_true]
  exact h
theorem ifB {c : Bool} {A B : Prop} (b : Bool) (hc : c = b) (h : if b = true then A else B) : if c = true then A else B := by
  rw [hc]
  exact h
theorem ifD {c A B : Prop} [Decidable c] (h1 : c → A) (h2 : ¬ c → B) : if decide c = true then A else B := by
  by_cases h : c
  · exact ifT h (h1 h)
  · exact ifF h (h2 h)
theorem ifBl {c : Bool} {A B : Prop} (h1 : c = true → A) (h2 : c = false → B) : if c = true then A else B := by
  cases c with
  | true => exact iteT (h1 rfl)
  | false => exact iteF (h2 rfl)
theorem le1 (a b : Nat) : (!decide ((⟨#[b]⟩ : Str).cps.toList < (⟨#[a]⟩ : Str).cps.toList)) = decide (a ≤ b) := by
  have e : ((⟨#[b]⟩ : Str).cps.toList < (⟨#[a]⟩ : Str).cps.toList) ↔ b < a := by
    show ([b] : List Nat) < [a] ↔ b < a
    rw [List.cons_lt_cons_iff]
    simp
  by_cases h : b < a
  · rw [decide_eq_true (e.mpr h), decide_eq_false (by omega)] <;> rfl
  · rw [decide_eq_false (fun q => h (e.mp q)), decide_eq_true (by omega)] <;> rfl
theorem sz {n : Nat} (h : n ≤ 100000) : n ≤ sizeLine := Nat.le_trans h (by decide)
theorem szl {n : Nat} (h : n < 100000) : n < sizeLine := Nat.lt_of_lt_of_le h (by decide)
theorem atN {α : Type} {xs : List α} {i : Int} {v : α} (j : Nat) (e : i = (j : Int)) (h : xs[j]? = some v) : atI xs i = some v := by
  rw [e]
  exact atI_nat h
theorem zlen (z : Str) : z.length = z.cps.toList.length := by simp [Str.length]
end U
namespace U
open PySem PySem.Spec PyProof.Rows L2
theorem same_new {H : Hp} {p : Addr} {o : HO} (h : H p = none) : Same H (upd H p o) := fun b u e => by
  rw [upd_ne (ne_of_none e h)]
  exact e
/-- all but what stands at p is as it was -/
def SameBut (p : Addr) (H H' : Hp) : Prop := ∀ b o, b ≠ p → H b = some o → H' b = some o
theorem SameBut.refl (p : Addr) (H : Hp) : SameBut p H H := fun _ _ _ h => h
theorem SameBut.trans {p : Addr} {H H1 H2 : Hp} (a : SameBut p H H1) (b : SameBut p H1 H2) : SameBut p H H2 := fun c o n h => b c o n (a c o n h)
theorem SameBut.of {p : Addr} {H H' : Hp} (a : Same H H') : SameBut p H H' := fun c o _ h => a c o h
theorem SameBut.upd {p : Addr} {H H' : Hp} {o : HO} (a : SameBut p H H') : SameBut p H (upd H' p o) := fun c u n h => by
  rw [upd_ne n]
  exact a c u n h
theorem Same.but {p : Addr} {H H1 H2 : Hp} (a : Same H H1) (b : SameBut p H1 H2) (hp : H p = none) : Same H H2 := fun c o h => b c o (ne_of_none h hp) (a c o h)
theorem SameBut.free {p l : Addr} {H H' : Hp} (a : SameBut p H H') (n : l ≠ p) (h : H' l = none) : H l = none := by
  cases q : H l with
  | none => rfl
  | some o =>
    rw [a l o n q] at h
    cases h
/-- a box of draws: three whole numbers -/
def BoxAt (H : Hp) (p : Addr) (n : Nat) : Prop := ∃ b0 b1 b2 : Int, H p = some (.lst [.int b0, .int b1, .int b2]) ∧ 0 ≤ b0 ∧ 0 ≤ b1 ∧ b1 < 2147483648 ∧ 0 ≤ b2 ∧ b2 ≤ n
theorem BoxAt.some {H : Hp} {p : Addr} {n : Nat} (b : BoxAt H p n) : ∃ o, H p = some o := by
  obtain ⟨b0, b1, b2, h, _⟩ := b
  exact ⟨_, h⟩
theorem BoxAt.mono {H : Hp} {p : Addr} {n m : Nat} (b : BoxAt H p n) (h : n ≤ m) : BoxAt H p m := by
  obtain ⟨b0, b1, b2, e, h0, h1, h2, h3, h4⟩ := b
  exact ⟨b0, b1, b2, e, h0, h1, h2, h3, by omega⟩
theorem BoxAt.same {H H' : Hp} {p : Addr} {n : Nat} (b : BoxAt H p n) (s : Same H H') : BoxAt H' p n := by
  obtain ⟨b0, b1, b2, e, h⟩ := b
  exact ⟨b0, b1, b2, s _ _ e, h⟩
/-- _law_take: one draw -/
def spTake : Sp := fun vs H Q _ => ∃ (p : Addr) (m : Int) (n : Nat), vs = [.ref p, .int m] ∧ BoxAt H p n ∧ n ≤ 100000 ∧ 0 < m ∧ m < 1073741824 ∧ ∀ (d : Int) (H' : Hp), 0 ≤ d → d < m → BoxAt H' p (n + 1) → SameBut p H H' → Q (.int d) H'
def spBox : Sp := fun vs H Q _ => ∃ (c : Int), vs = [.int c] ∧ ∀ (p : Addr) (H' : Hp), H p = none → BoxAt H' p 0 → Same H H' → Q (.ref p) H'
def spCell (K : PySem.W.Frag) : Sp := fun vs H Q _ => ∃ (a : Addr) (ns : List Int) (k : Int), vs = [.ref a, .int k] ∧ SqL K H a (ns.map V.int) ∧ ns.length ≤ 63 ∧ 0 ≤ k ∧ k ≤ 1000 ∧ ∀ (c : Int) (H' : Hp), Same H H' → Q (.int c) H'
theorem cut_map (ns : List Int) (lo hi : Option Int) : ∃ ms : List Int, cutV (ns.map V.int) lo hi = ms.map V.int := by
  refine ⟨(ns.drop (HT.sIx (ns.map V.int).length 0 lo)).take (HT.sIx (ns.map V.int).length (ns.map V.int).length hi - HT.sIx (ns.map V.int).length 0 lo), ?_⟩
  unfold cutV
  rw [List.map_take, List.map_drop]
theorem lst_ix0 {x y z : V} : ([x, y, z] : List V)[0]? = some x := rfl
end U
namespace U
open PySem PySem.Spec PyProof.Rows L2
theorem ifDi {a b : Int} {A B : Prop} (h1 : a = b → A) (h2 : ¬ a = b → B) : if decide (V.int a = V.int b) = true then A else B :=
  ifD (fun h => h1 (V.int.inj h)) (fun h => h2 (fun e => h (congrArg V.int e)))
theorem ifDs {a b : Str} {A B : Prop} (h1 : a = b → A) (h2 : ¬ a = b → B) : if decide (V.str a = V.str b) = true then A else B :=
  ifD (fun h => h1 (V.str.inj h)) (fun h => h2 (fun e => h (congrArg V.str e)))
theorem ifDbi {a b : Int} {A B : Prop} (h1 : ¬ a = b → A) (h2 : a = b → B) : if (!decide (V.int a = V.int b)) = true then A else B := by
  by_cases h : a = b
  · rw [decide_eq_true (congrArg V.int h)]
    exact iteF (h2 h)
  · rw [decide_eq_false (fun q => h (V.int.inj q))]
    exact iteT (h1 h)
theorem ifTi {a b : Int} {A B : Prop} (hc : a = b) (h : A) : if decide (V.int a = V.int b) = true then A else B := ifT (congrArg V.int hc) h
theorem ifFi {a b : Int} {A B : Prop} (hc : ¬ a = b) (h : B) : if decide (V.int a = V.int b) = true then A else B := ifF (fun e => hc (V.int.inj e)) h
end U
namespace U
open PySem PySem.Spec PyProof.Rows L2
theorem forR1 {n : Int} {g : TG} {tb : TS} {D : Ends} {σ : L2.St} {H : Hp} (hn : 0 ≤ n ∧ n ≤ 100000) (Pv : Nat → L2.St → Hp → Prop) (h0 : Pv 0 σ H)
    (hs : ∀ (i : Nat) σ H, (i : Int) < n → Pv i σ H → g (.int (i : Int)) σ H fun σ2 H2 => tb { D with nx := Pv (i + 1), ct := Pv (i + 1), bk := D.nx } σ2 H2) (hd : ∀ σ H, Pv n.toNat σ H → D.nx σ H) :
    ∃ j : Int, [V.int n] = [V.int j] ∧ -(2 ^ 62) ≤ j ∧ j < 2 ^ 62 ∧ ∃ W : Nat → Nat → L2.St → Hp → Prop, (∃ m, W 0 m σ H) ∧ ∀ i m σ H, W i m σ H →
      ((Itr 0 j.toNat).stop i H ∧ D.nx σ H) ∨ ((Itr 0 j.toNat).go i H ∧ ∃ N : L2.St → Hp → Prop, (∀ σ' H', N σ' H' → ∃ m', m' < m ∧ W (i + 1) m' σ' H') ∧ ∀ x H', (Itr 0 j.toNat).yld i H x H' → g x σ H' fun σ2 H2 => tb { D with nx := N, ct := N, bk := D.nx } σ2 H2) :=
  ⟨n, rfl, by omega, by omega, for_range (lo := 0) (n := n.toNat) Pv h0 (fun i σ H hi p => by
    have e0 : (0 : Int) + (i : Int) = (i : Int) := Int.zero_add _
    rw [e0]
    exact hs i σ H (by omega) p) hd⟩
/-- a comprehension over the signs of a text -/
theorem lcStr {z : Str} {g : TG} {tt : TT} {te : TE} {vs : List Nat} {σ : L2.St} {H1 : Hp} {D : Addr} {Qd : Hp → Prop} (Pv : Nat → Hp → Prop) (h0 : Pv 0 (upd H1 D (.lst [])))
    (hs : ∀ i c H, z.cps.toList[i]? = some c → Pv i H → g (.str ⟨#[c]⟩) (wipe σ vs) H fun σ2 H2 => wipe σ2 vs = wipe σ vs ∧ tt σ2 H2 fun b H3 =>
      if b = true then te σ2 H3 fun y H4 => ∃ acc, H4 D = some (.lst acc) ∧ acc.length < sizeLine ∧ Pv (i + 1) (upd H4 D (.lst (acc ++ [y]))) else Pv (i + 1) H3) (hd : ∀ H, Pv z.length H → Qd H) :
    ∃ W : Nat → Nat → Hp → Prop, (∃ m, W 0 m (upd H1 D (.lst []))) ∧ ∀ i m H, W i m H →
      ((Its z).stop i H ∧ Qd H) ∨ ((Its z).go i H ∧ ∃ Nx : Hp → Prop, (∀ H', Nx H' → ∃ m', m' < m ∧ W (i + 1) m' H') ∧ ∀ x H', (Its z).yld i H x H' → g x (wipe σ vs) H' fun σ2 H2 => wipe σ2 vs = wipe σ vs ∧ tt σ2 H2 fun b H3 =>
        if b = true then te σ2 H3 fun y H4 => ∃ acc, H4 D = some (.lst acc) ∧ acc.length < sizeLine ∧ Nx (upd H4 D (.lst (acc ++ [y]))) else Nx H3) := by
  refine ⟨fun i m H => i + m = z.length ∧ Pv i H, ⟨z.length, Nat.zero_add _, h0⟩, ?_⟩
  rintro i m H ⟨hm, p⟩
  by_cases hi : i < z.length
  · refine Or.inr ⟨hi, Pv (i + 1), fun H' q => ⟨m - 1, by omega, by omega, q⟩, ?_⟩
    rintro x H' ⟨rfl, c, hc, rfl⟩
    refine hs i c H' ?_ p
    rw [← hc]
    simp
  · refine Or.inl ⟨Nat.le_of_not_lt hi, hd H ?_⟩
    rw [show z.length = i by omega]
    exact p
/-- written texts as data -/
def strD (ss : List Str) : List PyData := ss.map .str
theorem dpStrs {K : PySem.W.Frag} {H : Hp} : ∀ ss : List Str, DpAll K H (ss.map V.str) (strD ss)
  | [] => .nil
  | s :: r => .cons (.str s) (dpStrs r)
theorem canStrs : ∀ ss : List Str, (∀ s ∈ ss, PyData.strOk s = true) → PyData.canLayAll0 (strD ss) = true
  | [], _ => rfl
  | s :: r, h => by
    show (PyData.strOk s && PyData.canLayAll0 (strD r)) = true
    rw [h s (List.mem_cons_self ..), canStrs r fun t ht => h t (List.mem_cons_of_mem _ ht)] <;> rfl
theorem depthStrs : ∀ ss : List Str, PyData.depthAll (strD ss) = 0
  | [] => rfl
  | s :: r => by
    show max 0 (PyData.depthAll (strD r)) = 0
    rw [depthStrs r] <;> rfl
theorem shStrs (ss : List Str) (h : ∀ s ∈ ss, PyData.strOk s = true) : SeqAt.shaped (.list (strD ss)) = true := by
  show (PyData.canLayAll0 (strD ss) && decide (PyData.depthAll (strD ss) + 1 ≤ 64)) = true
  rw [canStrs ss h, depthStrs] <;> rfl
end U
namespace U
open PySem PySem.Spec PyProof.Rows L2
theorem newF {H H1 : Hp} {p : Addr} {o : HO} (np : H p = none) (h : upd H p o = H1) : Same H H1 ∧ H1 p = some o := by
  subst h
  exact ⟨same_new np, upd_same⟩
theorem updF {H H1 : Hp} {p : Addr} {o : HO} (h : upd H p o = H1) : H1 p = some o ∧ SameBut p H H1 := by
  subst h
  exact ⟨upd_same, (SameBut.refl _ _).upd⟩
theorem atI_words {ss : List Str} {d : Int} {v : V} (h : atI (ss.map V.str) d = some v) (xs : List V) (e : xs = ss.map V.str) : atI xs d = some v := by
  rw [e]
  exact h
end U
namespace U
open PySem PySem.Spec PyProof.Rows L2
theorem forR {n : Nat} {g : TG} {tb : TS} {D : Ends} {σ : L2.St} {H : Hp} (Pv : Nat → L2.St → Hp → Prop) (h0 : Pv 0 σ H)
    (hs : ∀ (i : Nat) σ H, i < n → Pv i σ H → g (.int (i : Int)) σ H fun σ2 H2 => tb { D with nx := Pv (i + 1), ct := Pv (i + 1), bk := D.nx } σ2 H2) (hd : ∀ σ H, Pv n σ H → D.nx σ H) :
    ∃ W : Nat → Nat → L2.St → Hp → Prop, (∃ m, W 0 m σ H) ∧ ∀ i m σ H, W i m σ H →
      ((Itr 0 n).stop i H ∧ D.nx σ H) ∨ ((Itr 0 n).go i H ∧ ∃ N : L2.St → Hp → Prop, (∀ σ' H', N σ' H' → ∃ m', m' < m ∧ W (i + 1) m' σ' H') ∧ ∀ x H', (Itr 0 n).yld i H x H' → g x σ H' fun σ2 H2 => tb { D with nx := N, ct := N, bk := D.nx } σ2 H2) :=
  for_range (lo := 0) (n := n) Pv h0 (fun i σ H hi p => by
    have e0 : (0 : Int) + (i : Int) = (i : Int) := Int.zero_add _
    rw [e0]
    exact hs i σ H hi p) hd
end U
namespace Toy
open PySem L2
--@OWN _law_two_right one
--@RAISING Ratio.__init__
--@RAISING Ratio.over
--@REPR call_repr_bl
--@WIDE Ratio.__add__
--@WIDE Ratio.__init__
--@WIDE Ratio.__mul__
--@WIDE Ratio.__sub__
--@WIDE Ratio.below
--@WIDE Ratio.over
--@WIDE _law_low
--@WIDE _law_two_right
def top (i : Nat) : Stmt := PySem.Challenge.pw_widestkind_k02_ratios.main.body.getD i (.Pass ⟨0, 0, 0, 0⟩)
abbrev s_Ratio_init : Stmt := inClass (top 5) 0
abbrev nm_Ratio_init : List Str := ["self", "top", "bottom", "common"]
theorem sc_Ratio_init : FnScope nm_Ratio_init ["self", "top", "bottom"] (defScope s_Ratio_init) := ⟨rfl, rfl, rfl, by decide +kernel, rfl, by decide +kernel, by decide +kernel⟩
abbrev s_Ratio_top : Stmt := inClass (top 5) 1
abbrev nm_Ratio_top : List Str := ["self"]
theorem sc_Ratio_top : FnScope nm_Ratio_top ["self"] (defScope s_Ratio_top) := ⟨rfl, rfl, rfl, by decide +kernel, rfl, by decide +kernel, by decide +kernel⟩
abbrev s_Ratio_bottom : Stmt := inClass (top 5) 2
abbrev nm_Ratio_bottom : List Str := ["self"]
theorem sc_Ratio_bottom : FnScope nm_Ratio_bottom ["self"] (defScope s_Ratio_bottom) := ⟨rfl, rfl, rfl, by decide +kernel, rfl, by decide +kernel, by decide +kernel⟩
abbrev s_Ratio_add : Stmt := inClass (top 5) 3
abbrev nm_Ratio_add : List Str := ["self", "other", "top", "bottom"]
theorem sc_Ratio_add : FnScope nm_Ratio_add ["self", "other"] (defScope s_Ratio_add) := ⟨rfl, rfl, rfl, by decide +kernel, rfl, by decide +kernel, by decide +kernel⟩
abbrev s_Ratio_sub : Stmt := inClass (top 5) 4
abbrev nm_Ratio_sub : List Str := ["self", "other", "top", "bottom"]
theorem sc_Ratio_sub : FnScope nm_Ratio_sub ["self", "other"] (defScope s_Ratio_sub) := ⟨rfl, rfl, rfl, by decide +kernel, rfl, by decide +kernel, by decide +kernel⟩
abbrev s_Ratio_mul : Stmt := inClass (top 5) 5
abbrev nm_Ratio_mul : List Str := ["self", "other", "top", "bottom"]
theorem sc_Ratio_mul : FnScope nm_Ratio_mul ["self", "other"] (defScope s_Ratio_mul) := ⟨rfl, rfl, rfl, by decide +kernel, rfl, by decide +kernel, by decide +kernel⟩
abbrev s_Ratio_eq : Stmt := inClass (top 5) 6
abbrev nm_Ratio_eq : List Str := ["self", "other"]
theorem sc_Ratio_eq : FnScope nm_Ratio_eq ["self", "other"] (defScope s_Ratio_eq) := ⟨rfl, rfl, rfl, by decide +kernel, rfl, by decide +kernel, by decide +kernel⟩
abbrev s_Ratio_over : Stmt := inClass (top 5) 7
abbrev nm_Ratio_over : List Str := ["self", "number", "top", "bottom"]
theorem sc_Ratio_over : FnScope nm_Ratio_over ["self", "number"] (defScope s_Ratio_over) := ⟨rfl, rfl, rfl, by decide +kernel, rfl, by decide +kernel, by decide +kernel⟩
abbrev s_Ratio_below : Stmt := inClass (top 5) 8
abbrev nm_Ratio_below : List Str := ["self", "number", "top", "bottom"]
theorem sc_Ratio_below : FnScope nm_Ratio_below ["self", "number"] (defScope s_Ratio_below) := ⟨rfl, rfl, rfl, by decide +kernel, rfl, by decide +kernel, by decide +kernel⟩
abbrev s_Ratio_written : Stmt := inClass (top 5) 9
abbrev nm_Ratio_written : List Str := ["self"]
theorem sc_Ratio_written : FnScope nm_Ratio_written ["self"] (defScope s_Ratio_written) := ⟨rfl, rfl, rfl, by decide +kernel, rfl, by decide +kernel, by decide +kernel⟩
abbrev s_terms : Stmt := top 6
abbrev nm_terms : List Str := ["number"]
theorem sc_terms : FnScope nm_terms ["number"] (defScope s_terms) := ⟨rfl, rfl, rfl, by decide +kernel, rfl, by decide +kernel, by decide +kernel⟩
abbrev s_law_cell : Stmt := top 8
abbrev nm_law_cell : List Str := ["script", "k"]
theorem sc_law_cell : FnScope nm_law_cell ["script", "k"] (defScope s_law_cell) := ⟨rfl, rfl, rfl, by decide +kernel, rfl, by decide +kernel, by decide +kernel⟩
abbrev s_law_box : Stmt := top 9
abbrev nm_law_box : List Str := ["cell"]
theorem sc_law_box : FnScope nm_law_box ["cell"] (defScope s_law_box) := ⟨rfl, rfl, rfl, by decide +kernel, rfl, by decide +kernel, by decide +kernel⟩
abbrev s_law_take : Stmt := top 10
abbrev nm_law_take : List Str := ["box", "many", "digit", "number"]
theorem sc_law_take : FnScope nm_law_take ["box", "many"] (defScope s_law_take) := ⟨rfl, rfl, rfl, by decide +kernel, rfl, by decide +kernel, by decide +kernel⟩
abbrev s_law_low : Stmt := top 12
abbrev nm_law_low : List Str := ["high", "low", "one", "other", "sign"]
theorem sc_law_low : FnScope nm_law_low ["high", "low"] (defScope s_law_low) := ⟨rfl, rfl, rfl, by decide +kernel, rfl, by decide +kernel, by decide +kernel⟩
abbrev s_law_number : Stmt := top 13
abbrev nm_law_number : List Str := ["box", "way"]
theorem sc_law_number : FnScope nm_law_number ["box"] (defScope s_law_number) := ⟨rfl, rfl, rfl, by decide +kernel, rfl, by decide +kernel, by decide +kernel⟩
abbrev s_law_pair : Stmt := top 14
abbrev nm_law_pair : List Str := ["box", "low"]
theorem sc_law_pair : FnScope nm_law_pair ["box"] (defScope s_law_pair) := ⟨rfl, rfl, rfl, by decide +kernel, rfl, by decide +kernel, by decide +kernel⟩
abbrev s_law_told : Stmt := top 15
abbrev nm_law_told : List Str := ["ratio"]
theorem sc_law_told : FnScope nm_law_told ["ratio"] (defScope s_law_told) := ⟨rfl, rfl, rfl, by decide +kernel, rfl, by decide +kernel, by decide +kernel⟩
abbrev s_law_text : Stmt := top 16
abbrev nm_law_text : List Str := ["pair"]
theorem sc_law_text : FnScope nm_law_text ["pair"] (defScope s_law_text) := ⟨rfl, rfl, rfl, by decide +kernel, rfl, by decide +kernel, by decide +kernel⟩
abbrev s_law_over : Stmt := top 17
abbrev nm_law_over : List Str := ["one", "other"]
theorem sc_law_over : FnScope nm_law_over ["one", "other"] (defScope s_law_over) := ⟨rfl, rfl, rfl, by decide +kernel, rfl, by decide +kernel, by decide +kernel⟩
abbrev s_law_two_right : Stmt := top 18
abbrev nm_law_two_right : List Str := ["first", "second", "one", "other", "a", "b", "c", "d", "alike2", "less"]
theorem sc_law_two_right : FnScope nm_law_two_right ["first", "second", "one", "other"] (defScope s_law_two_right) := ⟨rfl, rfl, rfl, by decide +kernel, rfl, by decide +kernel, by decide +kernel⟩
abbrev s_law_refused : Stmt := top 19
abbrev nm_law_refused : List Str := ["high"]
theorem sc_law_refused : FnScope nm_law_refused ["high"] (defScope s_law_refused) := ⟨rfl, rfl, rfl, by decide +kernel, rfl, by decide +kernel, by decide +kernel⟩
abbrev s_law : Stmt := top 20
abbrev nm_law : List Str := ["script", "k", "box", "pairs", "first", "second", "one", "other", "whole", "turn", "odd"]
theorem sc_law : FnScope nm_law ["script"] (defScope s_law) := ⟨rfl, rfl, rfl, by decide +kernel, rfl, by decide +kernel, by decide +kernel⟩
structure Ad where
  (a_Ratio_init a_Ratio_top a_Ratio_bottom a_Ratio_add a_Ratio_sub a_Ratio_mul a_Ratio_eq a_Ratio_over a_Ratio_below a_Ratio_written a_terms a_law_cell a_law_box a_law_take a_law_low a_law_number a_law_pair a_law_told a_law_text a_law_over a_law_two_right a_law_refused a_law : Addr)
  (fd_Ratio_init fd_Ratio_top fd_Ratio_bottom fd_Ratio_add fd_Ratio_sub fd_Ratio_mul fd_Ratio_eq fd_Ratio_over fd_Ratio_below fd_Ratio_written fd_terms fd_law_cell fd_law_box fd_law_take fd_law_low fd_law_number fd_law_pair fd_law_told fd_law_text fd_law_over fd_law_two_right fd_law_refused fd_law : FuncData)
  (c_KindError c_ByZero c_Ratio : Addr)
  (p_Ratio_top p_Ratio_bottom : Addr)
structure Top (K : PySem.W.Frag) (mg : Str → Option Value) (A : Ad) : Prop where
  F_Ratio_init : FunD K "__init__" "Ratio.__init__" (defArgs s_Ratio_init) (defBody s_Ratio_init) (defScope s_Ratio_init) [.int 1] [] A.a_Ratio_init A.fd_Ratio_init
  b_Ratio_init : Binds K A.fd_Ratio_init ["self", "top", "bottom"] []
  F_Ratio_top : Fun K "top" "Ratio.top" s_Ratio_top A.a_Ratio_top A.fd_Ratio_top
  b_Ratio_top : Binds K A.fd_Ratio_top ["self"] []
  F_Ratio_bottom : Fun K "bottom" "Ratio.bottom" s_Ratio_bottom A.a_Ratio_bottom A.fd_Ratio_bottom
  b_Ratio_bottom : Binds K A.fd_Ratio_bottom ["self"] []
  F_Ratio_add : Fun K "__add__" "Ratio.__add__" s_Ratio_add A.a_Ratio_add A.fd_Ratio_add
  b_Ratio_add : Binds K A.fd_Ratio_add ["self", "other"] []
  F_Ratio_sub : Fun K "__sub__" "Ratio.__sub__" s_Ratio_sub A.a_Ratio_sub A.fd_Ratio_sub
  b_Ratio_sub : Binds K A.fd_Ratio_sub ["self", "other"] []
  F_Ratio_mul : Fun K "__mul__" "Ratio.__mul__" s_Ratio_mul A.a_Ratio_mul A.fd_Ratio_mul
  b_Ratio_mul : Binds K A.fd_Ratio_mul ["self", "other"] []
  F_Ratio_eq : Fun K "__eq__" "Ratio.__eq__" s_Ratio_eq A.a_Ratio_eq A.fd_Ratio_eq
  b_Ratio_eq : Binds K A.fd_Ratio_eq ["self", "other"] []
  F_Ratio_over : Fun K "over" "Ratio.over" s_Ratio_over A.a_Ratio_over A.fd_Ratio_over
  b_Ratio_over : Binds K A.fd_Ratio_over ["self", "number"] []
  F_Ratio_below : Fun K "below" "Ratio.below" s_Ratio_below A.a_Ratio_below A.fd_Ratio_below
  b_Ratio_below : Binds K A.fd_Ratio_below ["self", "number"] []
  F_Ratio_written : Fun K "written" "Ratio.written" s_Ratio_written A.a_Ratio_written A.fd_Ratio_written
  b_Ratio_written : Binds K A.fd_Ratio_written ["self"] []
  F_terms : Fun K "terms" "terms" s_terms A.a_terms A.fd_terms
  b_terms : Binds K A.fd_terms ["number"] []
  m_terms : mg "terms" = some (.ref A.a_terms)
  F_law_cell : Fun K "_law_cell" "_law_cell" s_law_cell A.a_law_cell A.fd_law_cell
  b_law_cell : Binds K A.fd_law_cell ["script", "k"] []
  m_law_cell : mg "_law_cell" = some (.ref A.a_law_cell)
  F_law_box : Fun K "_law_box" "_law_box" s_law_box A.a_law_box A.fd_law_box
  b_law_box : Binds K A.fd_law_box ["cell"] []
  m_law_box : mg "_law_box" = some (.ref A.a_law_box)
  F_law_take : Fun K "_law_take" "_law_take" s_law_take A.a_law_take A.fd_law_take
  b_law_take : Binds K A.fd_law_take ["box", "many"] []
  m_law_take : mg "_law_take" = some (.ref A.a_law_take)
  F_law_low : Fun K "_law_low" "_law_low" s_law_low A.a_law_low A.fd_law_low
  b_law_low : Binds K A.fd_law_low ["high", "low"] []
  m_law_low : mg "_law_low" = some (.ref A.a_law_low)
  F_law_number : Fun K "_law_number" "_law_number" s_law_number A.a_law_number A.fd_law_number
  b_law_number : Binds K A.fd_law_number ["box"] []
  m_law_number : mg "_law_number" = some (.ref A.a_law_number)
  F_law_pair : Fun K "_law_pair" "_law_pair" s_law_pair A.a_law_pair A.fd_law_pair
  b_law_pair : Binds K A.fd_law_pair ["box"] []
  m_law_pair : mg "_law_pair" = some (.ref A.a_law_pair)
  F_law_told : Fun K "_law_told" "_law_told" s_law_told A.a_law_told A.fd_law_told
  b_law_told : Binds K A.fd_law_told ["ratio"] []
  m_law_told : mg "_law_told" = some (.ref A.a_law_told)
  F_law_text : Fun K "_law_text" "_law_text" s_law_text A.a_law_text A.fd_law_text
  b_law_text : Binds K A.fd_law_text ["pair"] []
  m_law_text : mg "_law_text" = some (.ref A.a_law_text)
  F_law_over : Fun K "_law_over" "_law_over" s_law_over A.a_law_over A.fd_law_over
  b_law_over : Binds K A.fd_law_over ["one", "other"] []
  m_law_over : mg "_law_over" = some (.ref A.a_law_over)
  F_law_two_right : Fun K "_law_two_right" "_law_two_right" s_law_two_right A.a_law_two_right A.fd_law_two_right
  b_law_two_right : Binds K A.fd_law_two_right ["first", "second", "one", "other"] []
  m_law_two_right : mg "_law_two_right" = some (.ref A.a_law_two_right)
  F_law_refused : Fun K "_law_refused" "_law_refused" s_law_refused A.a_law_refused A.fd_law_refused
  b_law_refused : Binds K A.fd_law_refused ["high"] []
  m_law_refused : mg "_law_refused" = some (.ref A.a_law_refused)
  F_law : Fun K "law" "law" s_law A.a_law A.fd_law
  b_law : Binds K A.fd_law ["script"] []
  m_law : mg "law" = some (.ref A.a_law)
  n_abs : mg "abs" = none
  n_bool : mg "bool" = none
  n_int : mg "int" = none
  n_isinstance : mg "isinstance" = none
  n_len : mg "len" = none
  n_list : mg "list" = none
  n_max : mg "max" = none
  n_min : mg "min" = none
  n_range : mg "range" = none
  n_repr : mg "repr" = none
  n_str : mg "str" = none
  n_sum : mg "sum" = none
  m_gcd : mg "gcd" = some (.builtin "math.gcd")
  cn : PySem.W.specialIn K (.builtin "object.__class__") "__get__" = some (some (.builtin "getset_descriptor.__get__"))
  ct : PySem.W.takesIn K (.builtin "object.__class__") = some true
  m_KindError : mg "KindError" = some (.ref A.c_KindError)
  m_ByZero : mg "ByZero" = some (.ref A.c_ByZero)
  x_ByZero : PySem.W.excIn K A.c_ByZero [.type "ValueError", .type "Exception", .type "BaseException", .type "object"] "ValueError.__new__" = true
  k_ByZero : PySem.W.keepIn K (.ref A.c_ByZero) = true
  b_ByZero : PySem.W.subIn K (.ref A.c_ByZero) (.type "BaseException") = some true
  t_ByZero : PySem.W.typeIn K (.ref A.c_ByZero) = some (.type "type")
  te_ByZero : PySem.W.exmOne K (.ref A.c_ByZero) (.ref A.c_ByZero) = some true
  m_Ratio : mg "Ratio" = some (.ref A.c_Ratio)
  cls_Ratio : Cls K A.c_Ratio
  mk_Ratio : Mk K A.c_Ratio A.a_Ratio_init
  ca_Ratio : PySem.W.findIn K (.ref A.c_Ratio) "__class__" = some (some (.builtin "object.__class__"))
  cm_Ratio : PySem.W.mroIn K A.c_Ratio (.type "object") = some true
  sf_Ratio : PySem.W.selfFirst K A.c_Ratio = true
  sub_Ratio : PySem.W.subIn K (.type "int") (.ref A.c_Ratio) = some false
  nf_Ratio_int : PySem.W.notFirst K A.c_Ratio (.type "int") = true
  ki_Ratio_int : PySem.W.kitOne K (.type "int") (.ref A.c_Ratio) = some false
  nf_Ratio_bool : PySem.W.notFirst K A.c_Ratio (.type "bool") = true
  ki_Ratio_bool : PySem.W.kitOne K (.type "bool") (.ref A.c_Ratio) = some false
  nf_Ratio_NoneType : PySem.W.notFirst K A.c_Ratio (.type "NoneType") = true
  ki_Ratio_NoneType : PySem.W.kitOne K (.type "NoneType") (.ref A.c_Ratio) = some false
  nf_Ratio_str : PySem.W.notFirst K A.c_Ratio (.type "str") = true
  ki_Ratio_str : PySem.W.kitOne K (.type "str") (.ref A.c_Ratio) = some false
  nf_Ratio_tuple : PySem.W.notFirst K A.c_Ratio (.type "tuple") = true
  ki_Ratio_tuple : PySem.W.kitOne K (.type "tuple") (.ref A.c_Ratio) = some false
  nf_Ratio_list : PySem.W.notFirst K A.c_Ratio (.type "list") = true
  ki_Ratio_list : PySem.W.kitOne K (.type "list") (.ref A.c_Ratio) = some false
  nf_Ratio_dict : PySem.W.notFirst K A.c_Ratio (.type "dict") = true
  ki_Ratio_dict : PySem.W.kitOne K (.type "dict") (.ref A.c_Ratio) = some false
  na_Ratio_top : NoAttr K A.c_Ratio "_top"
  na_Ratio_bottom : NoAttr K A.c_Ratio "_bottom"
  pr_Ratio_top : PropOf K A.c_Ratio "top" A.p_Ratio_top A.a_Ratio_top
  pr_Ratio_bottom : PropOf K A.c_Ratio "bottom" A.p_Ratio_bottom A.a_Ratio_bottom
  s_Ratio_add : PySem.W.findIn K (.ref A.c_Ratio) "__add__" = some (some (.ref A.a_Ratio_add))
  fn_Ratio_add : PySem.W.isFn K (.ref A.a_Ratio_add) = true
  r_Ratio_add : PySem.W.findIn K (.ref A.c_Ratio) "__radd__" = some none
  hi_Ratio_add : ∃ fo ro, PySem.W.findIn K (.type "int") "__add__" = some fo ∧ PySem.W.findIn K (.type "int") "__radd__" = some ro
  s_Ratio_sub : PySem.W.findIn K (.ref A.c_Ratio) "__sub__" = some (some (.ref A.a_Ratio_sub))
  fn_Ratio_sub : PySem.W.isFn K (.ref A.a_Ratio_sub) = true
  r_Ratio_sub : PySem.W.findIn K (.ref A.c_Ratio) "__rsub__" = some none
  hi_Ratio_sub : ∃ fo ro, PySem.W.findIn K (.type "int") "__sub__" = some fo ∧ PySem.W.findIn K (.type "int") "__rsub__" = some ro
  s_Ratio_mul : PySem.W.findIn K (.ref A.c_Ratio) "__mul__" = some (some (.ref A.a_Ratio_mul))
  fn_Ratio_mul : PySem.W.isFn K (.ref A.a_Ratio_mul) = true
  r_Ratio_mul : PySem.W.findIn K (.ref A.c_Ratio) "__rmul__" = some none
  hi_Ratio_mul : ∃ fo ro, PySem.W.findIn K (.type "int") "__mul__" = some fo ∧ PySem.W.findIn K (.type "int") "__rmul__" = some ro
  s_Ratio_eq : PySem.W.findIn K (.ref A.c_Ratio) "__eq__" = some (some (.ref A.a_Ratio_eq))
  fn_Ratio_eq : PySem.W.isFn K (.ref A.a_Ratio_eq) = true
  me_Ratio_over : Meth K A.c_Ratio "over" A.a_Ratio_over
  me_Ratio_below : Meth K A.c_Ratio "below" A.a_Ratio_below
  me_Ratio_written : Meth K A.c_Ratio "written" A.a_Ratio_written
end Toy
namespace Toy
open PySem L2 U
local macro_rules | `(tactic| walk_at "w") => `(tactic| repeat (first
  | refine ⟨_, rfl, ?_⟩
  | refine ⟨_, _, rfl, rfl, ?_⟩
  | refine Or.inr ⟨_, rfl, ?_⟩
  | refine Or.inl ⟨rfl, ?_⟩
  | refine Or.inl ⟨_, _, rfl, rfl, ?_⟩
  | refine Or.inl ⟨_, rfl, U.sz (by omega), ?_⟩
  | refine Or.inr ⟨_, _, rfl, rfl, ?_⟩
  | refine Or.inl ⟨_, _, _, _, rfl, rfl, (by first | assumption | exact SqL.of (by assumption) | exact SqL.of upd_same), (by rfl), ?_⟩
  | refine ⟨_, _, _, _, rfl, rfl, (by first | assumption | exact upd_same), (by rfl), ?_⟩
  | refine Or.inr ⟨_, _, rfl, (by first | exact Or.inl (by assumption) | exact Or.inl (SqL.of (by assumption)) | exact Or.inl (SqL.of upd_same) | exact Or.inr (SqT.of upd_same) | exact Or.inr (by assumption)), (by rfl), (by rfl), ?_⟩
  | refine Or.inr ⟨_, _, rfl, Or.inl (by first | assumption | exact SqL.of (by assumption) | exact SqL.of upd_same), ?_⟩
  | refine ⟨_, _, rfl, ?_⟩
  | refine And.intro (Or.inl ⟨rfl, _, SqL.of (by first | assumption | exact upd_same)⟩) ?_
  | refine ⟨_, _, _, rfl, rfl, (by first | assumption | exact upd_same), U.szl (by first | omega | (rw [List.length_map]; omega) | (show _ < 100000; decide)), ?_⟩
  | refine ⟨U.sz (by first | decide | (simp only [List.length_cons, List.length_nil]; decide)), ?_⟩
  | refine And.intro (by first | omega | decide) ?_
  | refine And.intro ⟨by omega, by omega⟩ ?_
  | refine And.intro (Or.inl ⟨by omega, by omega⟩) ?_
  | refine And.intro (Or.inr ⟨by omega, by omega⟩) ?_
  | refine And.intro ⟨by omega, by omega, by omega⟩ ?_
  | refine U.ifT (by omega) ?_
  | refine U.ifF (by omega) ?_
  | refine U.ifTi (by omega) ?_
  | refine U.ifFi (by omega) ?_))
section
open PySem.Spec PyProof.Rows
variable {X : Cx} {CX : CXT} {k : Nat} {f C : Addr} {fd : FuncData} {ps : List Str} {sp : Sp} {dvs : List V} {ds : List Value} {E : XK} {ES : L2.St → XK} {x m : Str} {p pos apos : Pos} {e o : Expr} {es : List Expr} {ta : TE} {t : TA}
theorem op_modX : OpR X (binaryOp .Mod) (rI (fun _ j => j ≠ 0) fun i j => .int (i.fmod j)) := opI fun _ _ _ _ _ _ _ hc q => PyProof.Rows.mod_int' hc q
theorem op_fdivX : OpR X (binaryOp .FloorDiv) (rI (fun _ j => j ≠ 0 ∧ j.natAbs.log2 < 9000) fun i j => .int (i.fdiv j)) := opI fun _ _ _ _ _ _ _ hc q => floordiv_int hc.1 q (.inl (PyProof.noPylong_of_log2 hc.2))
theorem call_repr_bl : CallR X (.builtin "repr") (fun xs H Q => ∃ b, xs = [.bl b] ∧ Q (.str (if b then "True" else "False")) H) := by
  intro pins s σ H xs us Q I r h
  obtain ⟨b, rfl, q⟩ := h
  obtain ⟨u, rfl, ru⟩ := vals1 r
  cases (show u = Value.bool b from ru)
  exact PySem.P.repr_of_bool ⟨.str _, H, I.tok _, ⟨_, rfl⟩, q⟩
/-- x op y by the def of x's class; y of the same class, or an int -/
def rOwn2 (C : Addr) (sp : Sp) (E : XK) : R2 := fun x y H Q => ∃ a dx fs, x = .ref a ∧ H a = some (.ins C dx fs) ∧ ((∃ b dy gs, y = .ref b ∧ H b = some (.ins C dy gs)) ∨ ∃ i, y = .int i) ∧ sp [x, y] H Q E
theorem op_own2 {op : Operator} (hc : PySem.W.selfFirst X.K C = true) (hs : PySem.W.findIn X.K (.ref C) (PySem.dunder op.info.2) = some (some (.ref f))) (hf : PySem.W.isFn X.K (.ref f) = true) (hr : PySem.W.findIn X.K (.ref C) (dunderR op.info.2) = some none)
    (h12 : ∃ fo ro, PySem.W.findIn X.K (.type "int") (PySem.dunder op.info.2) = some fo ∧ PySem.W.findIn X.K (.type "int") (dunderR op.info.2) = some ro) (hsub : PySem.W.subIn X.K (.type "int") (.ref C) = some false)
    (F : FnOk X.prog X.w X.K X.mg X.base CX k f fd ps sp) (hroom : Room k X.A) (hb : Binds X.K fd ps []) (hx : Passes CX X E) : OpR X (binaryOp op) (rOwn2 C sp E) := by
  intro pins s σ H x y v u Q I rx ry h
  obtain ⟨a, dx, fs, rfl, ea, hy, q⟩ := h
  cases (show v = Value.ref a from rx)
  obtain ⟨mA, O, _⟩ := ins_get I.hok ea
  obtain ⟨od, J, _⟩ := O.look
  obtain ⟨m, hF⟩ := I.fr
  have hcall : ∀ u, RelV y u → wpAny (model X.prog X.w) X.A (call (.ref f) [.ref a, u]) (PySem.W.CmpBack (EP X pins σ Q)) X.xe s := fun u ru =>
    wpAny_mono (run_fn (us := [.ref a, u]) (vs := [.ref a, y]) (dvs := []) (ds := []) F hroom hb .nil hx I (.cons rfl (.cons ru .nil)) q) (fun w s' z => by
      obtain ⟨z', H', I', rz, qz⟩ := z
      exact SlX.cmpback rz ⟨z', H', I', rz, qz⟩) fun _ _ x => x
  rcases hy with ⟨b, dy, gs, rfl, eb⟩ | ⟨i, rfl⟩
  · cases (show u = Value.ref b from ry)
    obtain ⟨mB, O', _⟩ := ins_get I.hok eb
    obtain ⟨od', J', _⟩ := O'.look
    exact PySem.W.binop_K hF I.ok.mod.kin J J'.type hc hs hf (hcall _ rfl)
  · obtain ⟨tt, rfl⟩ := (show ∃ t, u = Value.int i t from ry)
    obtain ⟨fo, ro, h1, h2⟩ := h12
    exact PySem.W.ksp_binT (T := "int") hF I.ok.mod.kin J rfl hc hs hf hr (.inl rfl) h1 h2 hsub (hcall _ ⟨tt, rfl⟩)
/-- x == y by the __eq__ of x's class -/
def rOwnEq (K : PySem.W.Frag) (C : Addr) (sp : Sp) (E : XK) : R2 := fun x y H Q => ∃ a dx fs tb, x = .ref a ∧ H a = some (.ins C dx fs) ∧ TyOf K H y tb ∧ PySem.W.notFirst K C tb = true ∧ sp [x, y] H Q E
theorem op_ownEq {K : PySem.W.Frag} (hK : X.K = K) (hs : PySem.W.findIn K (.ref C) "__eq__" = some (some (.ref f))) (hf : PySem.W.isFn K (.ref f) = true)
    (F : FnOk X.prog X.w K X.mg X.base CX k f fd ps sp) (hroom : Room k X.A) (hb : Binds K fd ps []) (hx : Passes CX X E) : OpR X (compareOp .Eq) (rOwnEq K C sp E) := by
  subst hK
  intro pins s σ H x y v u Q I rx ry h
  obtain ⟨a, dx, fs, tb, rfl, ea, ty, hn, q⟩ := h
  cases (show v = Value.ref a from rx)
  obtain ⟨mA, O, _⟩ := ins_get I.hok ea
  obtain ⟨od, J, _⟩ := O.look
  obtain ⟨m, hF⟩ := I.fr
  obtain ⟨P', Z, hp, _⟩ := kit_of I ry (.base ty)
  show wpAny _ _ (richCompare .Eq (.ref a) u) _ _ _
  refine PySem.W.cmp_K (op := .Eq) (tb := tb) hroom.units0 hF I.ok.mod.kin J (Z.ty _ _ I.kIn hp) hn hs hf ?_
  refine wpAny_mono (run_fn (us := [.ref a, u]) (vs := [.ref a, y]) (dvs := []) (ds := []) F hroom hb .nil hx I (.cons rfl (.cons ry .nil)) q) (fun w s' z => ?_) fun _ _ x => x
  obtain ⟨z', H', I', rz, qz⟩ := z
  exact SlX.cmpback rz ⟨z', H', I', rz, qz⟩
/-- o.m(e, ..) within a try -/
def tMethA (C : Addr) (m : Str) (sp : Sp) (ES : L2.St → XK) (ta : TE) (t : TA) : TE := fun σ H Q => ta σ H fun x H1 => ∃ a dx fs, x = .ref a ∧ H1 a = some (.ins C dx fs) ∧ fs.lookup m = none ∧
  t σ H1 fun vs H2 => sp (.ref a :: vs) H2 Q (ES σ)
theorem pe_methA {pl : Sem Bool} (he : PE X o ta) (c : Cls X.K C) (hm : Meth X.K C m f) (F : FnOk X.prog X.w X.K X.mg X.base CX k f fd ps sp) (hr : Room k X.A) (hb : Binds X.K fd ps []) (hx : ∀ σ, PassesAt CX X σ (ES σ)) (ha : PA X (e :: es) t)
    (hst : starEach (e :: es) X.env = (false, eval e X.env) :: starEach es X.env := by rfl) (hpl : (backTo pos (starEach es X.env)).any (·.1) = false := by rfl)
    (ht : eval (.Call (.Attribute o m apos) (e :: es) [] pos) X.env = (do
      let ov ← eval o X.env
      standAt apos.atName
      let (f, first) ← holding [ov] (getMethod ov m pl)
      callWith pos f first (backTo pos (starEach (e :: es) X.env)) (backToKw pos (keywordEach [] X.env))) := by rfl) :
    PE X (.Call (.Attribute o m apos) (e :: es) [] pos) (tMethA C m sp ES ta t) := by
  refine ⟨fun pins s σ H Q I h => ?_⟩
  refine PySem.W.methodCall_KW (pl := pl) (thn (he.run pins s σ H _ I h) fun u s1 ⟨x, H1, I1, rx, a, dx, fs, ex, ea, l, q⟩ => ?_) ht
  subst ex
  obtain rfl : u = Value.ref a := rx
  refine getmeth_ok I1 ea c hm l ?_
  refine PySem.W.callWith_K (first := [.ref a]) (h₀ := X.base) I.ok.mod.kin hm.kp (thn (ha.run pos pins s1 σ H1 _ I1 q) fun us s2 ⟨vs, H2, I2, r, q2⟩ => ⟨I2.kIn, ?_⟩) hst hpl
  exact run_fnS (E := ES) (us := .ref a :: us) (vs := .ref a :: vs) F hr hb (hx σ) I2 (.cons rfl r) q2
/-- C(e, ..) within a try -/
def tMakeA (C : Addr) (sp : Sp) (ES : L2.St → XK) (t : TA) : TE := fun σ H Q => t σ H fun vs H1 => ∀ x dx, H1 x = none → H1 dx = none → dx ≠ x → sp (.ref x :: vs) (upd (upd H1 dx (.own x)) x (.ins C dx [])) (fun v H2 => v = .non ∧ Q (.ref x) H2) (ES σ)
theorem pe_makeA (M : Mk X.K C f) (F : FnOk X.prog X.w X.K X.mg X.base CX k f fd ps sp) (hr : Room (k + 1) X.A) (hg : Gl X x) (hm : X.mg x = some (.ref C)) (hb : Binds X.K fd ps []) (hx : ∀ σ, PassesAt CX X σ (ES σ))
    (ha : PA X (e :: es) t) (hdb : (x == ("__debug__" : Str)) = false := by decide) (he : starEach (e :: es) X.env = (false, eval e X.env) :: starEach es X.env := by rfl) (hpl : (backTo pos (starEach es X.env)).any (·.1) = false := by rfl) :
    PE X (.Call (.Name x p) (e :: es) [] pos) (tMakeA C sp ES t) := by
  refine ⟨fun pins s σ H Q I h => ?_⟩
  refine wpAny_Call_Name_kw (ld_glob I hg hm ?_ hdb)
  refine PySem.W.callWith_K (h₀ := X.base) I.ok.mod.kin M.kp (thn (ha.run pos pins s σ H _ I h) fun us s1 ⟨vs, H1, I1, r, q⟩ => ⟨I1.kIn, ?_⟩) he hpl
  have hq := q (s1.heap.objs.size + 1) s1.heap.objs.size (I1.hok.fresh (Nat.le_succ _)) (I1.hok.fresh (Nat.le_refl _)) (Nat.ne_of_lt (Nat.lt_succ_self _))
  have I2 := Inv.made (C := C) I1
  have r2 : Vals (V.ref (s1.heap.objs.size + 1) :: vs) (Value.ref (s1.heap.objs.size + 1) :: us) := .cons rfl r
  have hl : (Value.ref (s1.heap.objs.size + 1) :: us).length = ps.length := by
    have e := r2.length
    rw [F.len _ _ _ _ hq] at e
    exact e.symm
  have b := hb _ (Value.ref (s1.heap.objs.size + 1) :: us) I2.kIn (by rw [List.append_nil]; exact hl)
  rw [List.append_nil] at b
  show wpAny _ _ (call (.ref C) us) _ _ _
  refine wpAny_call (make_map (f := f) I1.kIn M.makes M.init (beq_iff_eq.mp M.fn) (codeAny_mono (F.run _ X.stack _ _ ⟨Value.ref (s1.heap.objs.size + 1) :: us, []⟩ (Value.ref (s1.heap.objs.size + 1) :: us) _ _ (ES σ) (hr.make C us [])
    (I2.env0.make C us []) b r2 hq) fun r s' hq' => ?_))
  cases r with
  | error e => exact hx σ pins _ _ e s' I2 hq'
  | ok fl =>
    cases fl with
    | ret u =>
      obtain ⟨v, H', I3, rv, ev, q3⟩ := I2.after hq'
      subst ev
      exact ⟨rv, ⟨V.ref (s1.heap.objs.size + 1), H', I3, rfl, q3⟩⟩
    | next => exact False.elim hq'
    | brk => exact False.elim hq'
    | cont => exact False.elim hq'
/-- X() -/
theorem pmk_own0 {bmB : List Value} {B newId initId : String} (F : ExcBaseFacts B newId initId bmB) (q : PySem.W.excIn X.K C bmB newId = true) (gC : X.mg x = some (.ref C)) (kC : PySem.W.keepIn X.K (.ref C) = true) (r : Raises X (.ref C)) (hg : Gl X x)
    (hdb : (x == ("__debug__" : Str)) = false := by decide) : PMk X (.Call (.Name x p) [] [] pos) (fun _ H Q => Q (.ref C) none H) := by
  intro pins s σ H Q I h
  refine wpAny_Call_Name_kw (ld_glob I hg gC ?_ hdb)
  refine PySem.W.callWith_K0 I.kIn kC ?_
  show wpAny _ _ (call (.ref C) []) _ _ _
  obtain ⟨bm, N, nm, qn, bs, hdct, sn, sub, ab, col, dd, k0, k1, k2, k3, k5, mN, hC, hN, hni, T⟩ := exc_obj I.kIn q
  refine wpAny_call_exc_subT F T hC hN hni (fun h' e hm => ?_) (Nat.zero_le _)
  exact mk_of I hm r h (I.hok.gone hm.new)
end
section
open PySem.Spec PyProof.Rows
theorem vals_rev : ∀ {vs : List V} {us : List Value}, Vals vs us → Vals vs.reverse us.reverse
  | _, _, .nil => .nil
  | _, _, .cons h t => by
    rw [List.reverse_cons, List.reverse_cons]
    exact (vals_rev t).append (.cons h .nil)
theorem bindsAll {K : PySem.W.Frag} {x qual : Str} {params : Arguments} {body : List Stmt} {scope : Scope} {dvs : List V} {f : Addr} {fd : FuncData} {ps : List Str} (F : FunD K x qual params body scope dvs [] f fd) (hd : dvs ≠ [])
    (h : ∀ (T : Addr) (kV doc pm : Value) (an : Option Addr) (cdv ct : Value) (us its : List Value), us.length = ps.length → its.length = dvs.length →
      ∃ k, bindArgs (PySem.W.fnOf x qual params body scope (.ref T) kV doc pm an cdv ct) ⟨us, []⟩ = seqItems? (.ref T) >>= k ∧ k (some its.toArray) = pure (ps.zip us)) : Binds K fd ps [] := by
  obtain ⟨ds, v, b⟩ := F.binds1 (ps := ps) ps.length dvs.length hd (by simp) (fun T kV doc pm an cdv ct us its h1 h2 => by
    obtain ⟨k, e1, e2⟩ := h T kV doc pm an cdv ct us its h1 h2
    refine ⟨k, e1, ?_⟩
    rw [← h2, List.drop_length, List.append_nil]
    exact e2)
  rw [List.drop_length] at v
  cases v
  exact b
theorem kit_no {K : PySem.W.Frag} {C : Addr} {T : String} (i : PySem.W.isClsIn K C = true) (t : PySem.W.typeIn K (.ref C) = some (.type "type")) (h : PySem.W.subIn K (.type T) (.ref C) = some false) : PySem.W.kitOne K (.type T) (.ref C) = some false := by
  have e1 : ((PySem.W.clsIn K C).isSome && PySem.W.typeIn K (.ref C) == some (.type "type")) = true := by
    have i' : (PySem.W.clsIn K C).isSome = true := i
    rw [i', t] <;> rfl
  have ne : ¬ (Value.type T == Value.ref C) = true := fun q => by cases beq_iff_eq.mp q
  unfold PySem.W.kitOne
  rw [if_neg ne]
  show (if _ then _ else _) = _
  rw [if_pos e1]
  exact h
theorem kit_self {K : PySem.W.Frag} {v : Value} : PySem.W.kitOne K v v = some true := by
  unfold PySem.W.kitOne
  rw [if_pos (beq_iff_eq.mpr rfl)]
/-! lowest terms -/
def topOf (h l : Int) : Int := (Rat.divInt h l).num
def botOf (h l : Int) : Int := ((Rat.divInt h l).den : Int)
theorem top_eq {h l : Int} : topOf h l = l.sign * h / ((Nat.gcd h.natAbs l.natAbs : Nat) : Int) := by
  unfold topOf
  rw [Rat.num_divInt, Int.gcd_comm] <;> rfl
theorem bot_eq {h l : Int} (hl : l ≠ 0) : botOf h l = (l.natAbs : Int) / ((Nat.gcd h.natAbs l.natAbs : Nat) : Int) := by
  unfold botOf
  rw [Rat.den_divInt, if_neg hl, Int.gcd_comm, Int.natCast_ediv] <;> rfl
theorem gcd_pos {h l : Int} (hl : l ≠ 0) : 0 < Nat.gcd h.natAbs l.natAbs := Nat.gcd_pos_of_pos_right _ (by omega)
/-- the divisor that the program takes -/
theorem init_pos {h l : Int} (hl : 0 < l) : h.fdiv ((Nat.gcd h.natAbs l.natAbs : Nat) : Int) = topOf h l ∧ l.fdiv ((Nat.gcd h.natAbs l.natAbs : Nat) : Int) = botOf h l := by
  rw [top_eq, bot_eq (by omega), Int.fdiv_eq_ediv_of_nonneg _ (Int.natCast_nonneg _), Int.fdiv_eq_ediv_of_nonneg _ (Int.natCast_nonneg _), Int.sign_eq_one_of_pos hl, Int.one_mul, Int.natAbs_of_nonneg (by omega)]
  exact ⟨rfl, rfl⟩
theorem init_neg {h l : Int} (hl : l < 0) : h.fdiv (-((Nat.gcd h.natAbs l.natAbs : Nat) : Int)) = topOf h l ∧ l.fdiv (-((Nat.gcd h.natAbs l.natAbs : Nat) : Int)) = botOf h l := by
  have e : ∀ a b : Int, 0 ≤ b → a.fdiv (-b) = (-a) / b := fun a b hb => by
    rw [← Int.fdiv_eq_ediv_of_nonneg _ hb, ← Int.neg_fdiv_neg, Int.neg_neg]
  rw [top_eq, bot_eq (by omega), e _ _ (Int.natCast_nonneg _), e _ _ (Int.natCast_nonneg _), Int.sign_eq_neg_one_of_neg hl, show (l.natAbs : Int) = -l by omega, Int.neg_one_mul]
  exact ⟨rfl, rfl⟩
/-- two quotients are the same -/
theorem top_congr {h l h' l' : Int} (hl : l ≠ 0) (hl' : l' ≠ 0) (e : h * l' = h' * l) : topOf h l = topOf h' l' ∧ botOf h l = botOf h' l' := by
  unfold topOf botOf
  rw [(Rat.divInt_eq_divInt_iff hl hl').mpr e]
  exact ⟨rfl, rfl⟩
theorem bot_pos (h l : Int) : 0 < botOf h l := by
  unfold botOf
  have := (Rat.divInt h l).den_pos
  omega
/-- top * l = h * bot -/
theorem cross {h l : Int} (hl : l ≠ 0) : topOf h l * l = h * botOf h l := by
  have e : Rat.divInt (topOf h l) (botOf h l) = Rat.divInt h l := by
    unfold topOf botOf
    exact Rat.num_divInt_den _
  exact (Rat.divInt_eq_divInt_iff (Int.ne_of_gt (bot_pos h l)) hl).mp e
theorem top_le {h l : Int} : (topOf h l).natAbs ≤ h.natAbs := by
  rw [top_eq]
  refine Nat.le_trans (Int.natAbs_ediv_le_natAbs _ _) ?_
  rw [Int.natAbs_mul]
  rcases Int.sign_trichotomy l with e | e | e <;> rw [e] <;> simp
theorem bot_le {h l : Int} (hl : l ≠ 0) : (botOf h l).natAbs ≤ l.natAbs := by
  rw [bot_eq hl]
  refine Nat.le_trans (Int.natAbs_ediv_le_natAbs _ _) ?_
  simp
end
section
variable {P : Program} {w : World} {K : PySem.W.Frag} {mg : Str → Option Value} {base : Heap} {A : Ad}
theorem ok_law_cell (T : Top K mg A) : FnOk P w K mg base CX0 1 A.a_law_cell A.fd_law_cell ["script", "k"] (U.spCell K) := by
  refine T.F_law_cell.ok sc_law_cell (fun vs H Q E h => ?_) (fun cdv A outer s H vs Q E hr h => ?_)
  · obtain ⟨a, ns, k, rfl, _⟩ := h
    rfl
  · obtain ⟨a, ns, k, rfl, hS, hl, h0, h1, q⟩ := h
    refine ⟨_, (pss_one (ps_ret (pe_ifExp (pt_cmpR U.uLt (pv 1) (pe_callB (U.uLen (K := K) rfl) (by rfl) T.n_len (by decide +kernel) (pa_cons (pv 0) pa_nil)) (nomark _)) (pe_ix (U.uIx (K := K) rfl) (pv 0) (pv 1) (fun _ _ => rfl)) (pe_op U.uAdd (pe_op U.uAdd (pe_op U.uMul pe_int (pv 1)) pe_int) (pe_op op_mod (pe_callB (U.uSum (K := K) rfl rfl) (by rfl) T.n_sum (by decide +kernel) (pa_cons (pe_slice (U.uSl (K := K) rfl) (pv 0) po_none (po_some pe_int)) pa_nil)) pe_int))))), ?_⟩
    walk_at "w"
    rw [List.length_map]
    refine U.ifD (fun hk => ?_) (fun hk => ?_)
    · obtain ⟨j, rfl⟩ := Int.eq_ofNat_of_zero_le h0
      obtain ⟨c, hc⟩ : ∃ c, ns[j]? = some c := ⟨_, List.getElem?_eq_getElem (by omega)⟩
      walk_at "w"
      refine Or.inl ⟨_, _, _, _, rfl, rfl, hS, U.atN j rfl (by rw [List.getElem?_map, hc] <;> rfl), ?_⟩
      exact q _ _ (Same.refl _)
    · walk_at "w"
      refine Or.inr ⟨_, _, rfl, hS, fun p hp => ?_⟩
      obtain ⟨ms, e⟩ := U.cut_map ns none (some 1)
      refine ⟨p, ms, rfl, SqL.of ?_, ?_⟩
      · rw [← e]
        exact upd_same
      · walk_at "w"
        exact q _ _ (U.same_new hp)
theorem ok_law_box (T : Top K mg A) : FnOk P w K mg base CX0 1 A.a_law_box A.fd_law_box ["cell"] spBox := by
  refine T.F_law_box.ok sc_law_box (fun vs H Q E h => ?_) (fun cdv A outer s H vs Q E hr h => ?_)
  · obtain ⟨c, rfl, _⟩ := h
    rfl
  · obtain ⟨c, rfl, q⟩ := h
    refine ⟨_, (pss_one (ps_ret (pe_lst (pa_cons (pe_callB (call_max2 rfl) (by rfl) T.n_max (by decide +kernel) (pa_cons pe_int (pa_cons (pe_op op_sub (pe_callB call_abs (by rfl) T.n_abs (by decide +kernel) (pa_cons (pv 0) pa_nil)) (pe_op op_pow pe_int pe_int)) pa_nil))) (pa_cons (pe_op op_mod (pe_callB call_abs (by rfl) T.n_abs (by decide +kernel) (pa_cons (pv 0) pa_nil)) pe_int) (pa_cons pe_int pa_nil)))))), ?_⟩
    walk_at "w"
    intro p hp
    generalize (if c < 0 then -c else c) = c
    have h1 := Int.emod_nonneg c (show (2147483629 : Int) ≠ 0 by decide)
    have h2 := Int.emod_lt_of_pos c (show (0 : Int) < 2147483629 by decide)
    refine q _ _ hp ⟨_, _, _, upd_same, ?_, h1, by omega, by omega, by omega⟩ (U.same_new hp)
    split <;> omega
theorem ok_law_take (T : Top K mg A) : FnOk P w K mg base CX0 1 A.a_law_take A.fd_law_take ["box", "many"] spTake := by
  refine T.F_law_take.ok sc_law_take (fun vs H Q E h => ?_) (fun cdv A outer s H vs Q E hr h => ?_)
  · obtain ⟨p, m, n, rfl, _⟩ := h
    rfl
  · obtain ⟨p, m, n, rfl, ⟨b0, b1, b2, hp, h0, h1, h2, h3, h4⟩, hn, hm, hm2, q⟩ := h
    refine ⟨_, (pss_cons (ps_if (pt_cmpR U.uGt (pe_ix (U.uIx (K := K) rfl) (pv 0) pe_int (fun _ _ => rfl)) pe_int (nomark _)) (pss_cons (ps_set (i := 2) sc_law_take.nd rfl (Or.inl rfl) (pe_op op_mod (pe_ix (U.uIx (K := K) rfl) (pv 0) pe_int (fun _ _ => rfl)) (pv 1)))
    (pss_cons (ps_asg (pe_op op_fdiv (pe_ix (U.uIx (K := K) rfl) (pv 0) pe_int (fun _ _ => rfl)) (pv 1)) (pg_sub (pv 0) pe_int set_list))
    (pss_one (ps_ret (pv 2))))) pss_nil)
    (pss_cons (ps_asg (pe_op U.uAdd (pe_ix (U.uIx (K := K) rfl) (pv 0) pe_int (fun _ _ => rfl)) pe_int) (pg_sub (pv 0) pe_int set_list))
    (pss_cons (ps_set (i := 3) sc_law_take.nd rfl (Or.inl rfl) (pe_op op_mod (pe_op op_pow (pe_op U.uAdd (pe_op U.uAdd (pe_ix (U.uIx (K := K) rfl) (pv 0) pe_int (fun _ _ => rfl)) (pe_op U.uMul pe_int (pe_ix (U.uIx (K := K) rfl) (pv 0) pe_int (fun _ _ => rfl)))) pe_int) pe_int) pe_int))
    (pss_cons (ps_set (i := 3) sc_law_take.nd rfl (Or.inl rfl) (pe_op op_mod (pe_op op_pow (pe_op U.uAdd (pv 3) (pe_op U.uMul pe_int (pe_ix (U.uIx (K := K) rfl) (pv 0) pe_int (fun _ _ => rfl)))) pe_int) pe_int))
    (pss_one (ps_ret (pe_op op_mod (pe_op op_fdiv (pv 3) pe_int) (pv 1)))))))), ?_⟩
    walk_at "w"
    refine U.ifD (fun hb => ?_) (fun hb => ?_)
    · walk_at "w"
      refine q _ _ (Int.emod_nonneg _ (by omega)) (Int.emod_lt_of_pos _ hm) ⟨_, _, _, upd_same, Int.ediv_nonneg h0 (by omega), h1, h2, h3, by omega⟩ (U.SameBut.refl _ _).upd
    · walk_at "w"
      refine q _ _ (Int.emod_nonneg _ (by omega)) (Int.emod_lt_of_pos _ hm) ⟨_, _, _, upd_same, h0, h1, h2, by omega, ?_⟩ (U.SameBut.refl _ _).upd
      show b2 + 1 ≤ ((n + 1 : Nat) : Int)
      omega
end
section
variable {P : Program} {w : World} {K : PySem.W.Frag} {mg : Str → Option Value} {base : Heap} {A : Ad}
/-- below 2 ^ 4000 -/
abbrev Sm (i : Int) : Prop := i.natAbs < 2 ^ 4000
def spLow : Sp := fun vs H Q _ => ∃ h l : Int, vs = [.int h, .int l] ∧ l ≠ 0 ∧ Sm h ∧ Sm l ∧ ∀ p H', H p = none → upd H p (.tup [.int (topOf h l), .int (botOf h l)]) = H' → Q (.ref p) H'
theorem log9 {n : Nat} (h : n < 2 ^ 4000) : n.log2 < 9000 := Nat.lt_trans (PySem.Flt.log2_lt_of (by decide) h) (by decide)
theorem low_log {n : Nat} {i : Int} (hn : 0 < n) (h : n ≤ i.natAbs) (hs : Sm i) : n.log2 < 9000 := log9 (Nat.lt_of_le_of_lt h hs)
theorem cm {i j : Int} (hi : Sm i) (hj : Sm j) : CMulW i j := wide_mul hi hj (by decide) (by decide) (by decide)
theorem low_pos {h l : Int} (hl : 0 < l) : (1 * h).fdiv ((Nat.gcd h.natAbs l.natAbs : Nat) : Int) = topOf h l ∧ (1 * l).fdiv ((Nat.gcd h.natAbs l.natAbs : Nat) : Int) = botOf h l := by
  rw [Int.one_mul, Int.one_mul]
  exact init_pos hl
theorem low_neg {h l : Int} (hl : l < 0) : (-1 * h).fdiv ((Nat.gcd h.natAbs l.natAbs : Nat) : Int) = topOf h l ∧ (-1 * l).fdiv ((Nat.gcd h.natAbs l.natAbs : Nat) : Int) = botOf h l := by
  obtain ⟨h1, h2⟩ := init_neg (h := h) hl
  rw [← h1, ← h2, Int.neg_one_mul, Int.neg_one_mul]
  constructor
  · rw [← Int.neg_fdiv_neg, Int.neg_neg]
  · rw [← Int.neg_fdiv_neg, Int.neg_neg]
theorem gcd_step (a b : Nat) : Nat.gcd b (a % b) = Nat.gcd a b := by
  rw [Nat.gcd_comm a b, Nat.gcd_rec b a, Nat.gcd_comm]
theorem ok_law_low (T : Top K mg A) : FnOk P w K mg base CX0 1 A.a_law_low A.fd_law_low ["high", "low"] spLow := by
  refine T.F_law_low.ok sc_law_low (fun vs H Q E h => ?_) (fun cdv A outer s H vs Q E hr h => ?_)
  · obtain ⟨a, b, rfl, _⟩ := h
    rfl
  · obtain ⟨h, l, rfl, hl, sh, sl, q⟩ := h
    refine ⟨_, (pss_cons (ps_par (i := 2) (j := 3) rfl sc_law_low.nd rfl rfl (by decide) rfl rfl (pa_cons (pe_callB call_abs (by rfl) T.n_abs (by decide +kernel) (pa_cons (pv 0) pa_nil)) (pa_cons (pe_callB call_abs (by rfl) T.n_abs (by decide +kernel) (pa_cons (pv 1) pa_nil)) pa_nil)) rfl)
    (pss_cons (ps_while PassesOwn.never (pt_cmpR (U.uNe (K := K) rfl hr.units) (pv 3) pe_int (nomark _)) (pss_one (ps_par (i := 2) (j := 3) rfl sc_law_low.nd rfl rfl (by decide) rfl rfl (pa_cons (pv 3) (pa_cons (pe_op op_modX (pv 2) (pv 3)) pa_nil)) rfl)))
    (pss_cons (ps_set (i := 4) sc_law_low.nd rfl (Or.inl rfl) (pe_ifExp (pt_cmpR U.uGt (pv 1) pe_int (nomark _)) pe_int (pe_un un_neg pe_int)))
    (pss_one (ps_ret (pe_tup (pa_cons (pe_op op_fdivX (pe_op op_mulW (pv 4) (pv 0)) (pv 2)) (pa_cons (pe_op op_fdivX (pe_op op_mulW (pv 4) (pv 1)) (pv 2)) pa_nil)))))))), ?_⟩
    walk_at "w"
    refine ⟨fun m σ H' => H' = H ∧ ∃ a b : Nat, m = b ∧ σ = [some (.int h), some (.int l), some (.int a), some (.int b), none] ∧ Nat.gcd a b = Nat.gcd h.natAbs l.natAbs, ⟨_, rfl, h.natAbs, l.natAbs, rfl, ?_, rfl⟩, ?_⟩
    · rw [show (if h < 0 then -h else h) = (h.natAbs : Int) by split <;> omega, show (if l < 0 then -l else l) = (l.natAbs : Int) by split <;> omega]
      rfl
    · rintro m σ H' ⟨rfl, a, b, em, rfl, e⟩
      subst em
      walk_at "w"
      refine U.ifDbi (fun hb => ?_) (fun hb => ?_)
      · refine ⟨_, fun σ' H2 q => ⟨a % m, Nat.mod_lt _ (by omega), q⟩, ?_⟩
        walk_at "w"
        refine ⟨m, a % m, rfl, ?_, ?_⟩
        · have ef : (a : Int).fmod (m : Int) = ((a % m : Nat) : Int) := by rw [Int.fmod_eq_emod_of_nonneg _ (Int.natCast_nonneg _), Int.natCast_emod]
          rw [← ef]
          rfl
        · rw [gcd_step]
          exact e
      · obtain rfl : m = 0 := by omega
        rw [Nat.gcd_zero_right] at e
        subst e
        have hg := gcd_pos (h := h) hl
        have s1 : Sm 1 := by decide +kernel
        have s2 : Sm (-1) := by decide +kernel
        have hd : ((Nat.gcd h.natAbs l.natAbs : Nat) : Int) ≠ 0 ∧ ((Nat.gcd h.natAbs l.natAbs : Nat) : Int).natAbs.log2 < 9000 := ⟨by omega, low_log (i := l) (by omega) (by rw [Int.natAbs_natCast]; exact Nat.gcd_le_right _ (by omega)) sl⟩
        walk_at "w"
        refine U.ifD (fun h0 => ?_) (fun h0 => ?_)
        · walk_at "w"
          refine ⟨cm s1 sh, ?_⟩
          walk_at "w"
          refine ⟨cm s1 sl, ?_⟩
          walk_at "w"
          obtain ⟨e1, e2⟩ := low_pos (h := h) h0
          intro p np
          refine q p _ np ?_
          rw [← e1, ← e2]
        · walk_at "w"
          refine ⟨cm s2 sh, ?_⟩
          walk_at "w"
          refine ⟨cm s2 sl, ?_⟩
          walk_at "w"
          obtain ⟨e1, e2⟩ := low_neg (h := h) (l := l) (by omega)
          intro p np
          refine q p _ np ?_
          rw [← e1, ← e2]
end
section
variable {P : Program} {w : World} {K : PySem.W.Frag} {mg : Str → Option Value} {base : Heap} {A : Ad}
/-- a quotient of the program: its terms -/
def RtAt (C : Addr) (H : Hp) (a : Addr) (p q : Int) : Prop := ∃ dx, H a = some (.ins C dx [("_top", .int p), ("_bottom", .int q)])
theorem RtAt.same {C : Addr} {H H' : Hp} {a : Addr} {p q : Int} (r : RtAt C H a p q) (s : Same H H') : RtAt C H' a p q := by
  obtain ⟨dx, e⟩ := r
  exact ⟨dx, s _ _ e⟩
/-- a quotient or an integer -/
def RepV (C : Addr) (H : Hp) (v : V) (p q : Int) : Prop := (∃ a, v = .ref a ∧ RtAt C H a p q) ∨ (v = .int p ∧ q = 1)
theorem RepV.same {C : Addr} {H H' : Hp} {v : V} {p q : Int} (r : RepV C H v p q) (s : Same H H') : RepV C H' v p q :=
  r.elim (fun ⟨a, e, r⟩ => .inl ⟨a, e, r.same s⟩) .inr
def spInit (C B : Addr) : Sp := fun vs H Q E => ∃ (a dx : Addr) (h l : Int), vs = [.ref a, .int h, .int l] ∧ H a = some (.ins C dx []) ∧ Sm h ∧ Sm l ∧
  ((l ≠ 0 ∧ ∀ H', (∀ b, b ≠ a → H' b = H b) → RtAt C H' a (topOf h l) (botOf h l) → Q .non H') ∨ (l = 0 ∧ E (.ref B) none H))
theorem ok_Ratio_init (T : Top K mg A) : FnOk P w K mg base (L2.CX P w) 1 A.a_Ratio_init A.fd_Ratio_init ["self", "top", "bottom"] (spInit A.c_Ratio A.c_ByZero) := by
  refine T.F_Ratio_init.ok sc_Ratio_init (fun vs H Q E h => ?_) (fun cdv A' outer s H vs Q E hr h => ?_)
  · obtain ⟨a, dx, h, l, rfl, _⟩ := h
    rfl
  · obtain ⟨a, dx, h, l, rfl, ea, sh, sl, k⟩ := h
    refine ⟨_, (pss_cons (ps_if (pt_cmpR (U.uEq (K := K) rfl hr.units) (pv 2) pe_int (nomark _)) (pss_one (ps_raise rfl (takes_of rfl rfl rfl rfl) (pmk_own0 PySem.F.excBase_ValueError T.x_ByZero T.m_ByZero T.k_ByZero (raises_own T.b_ByZero T.t_ByZero) rfl))) pss_nil)
    (pss_cons (ps_set (i := 3) sc_Ratio_init.nd rfl (Or.inl rfl) (pe_callBfun cr_gcd rfl T.m_gcd (pa_cons (pv 1) (pa_cons (pv 2) pa_nil))))
    (pss_cons (ps_if (pt_cmpR U.uLt (pv 2) pe_int (nomark _)) (pss_one (ps_set (i := 3) sc_Ratio_init.nd rfl (Or.inl rfl) (pe_un un_neg (pv 3)))) pss_nil)
    (pss_cons (ps_fld (pv 0) (pe_op op_fdivX (pv 1) (pv 3)) rfl)
    (pss_one (ps_fld (pv 0) (pe_op op_fdivX (pv 2) (pv 3)) rfl)))))), ?_⟩
    walk_at "w"
    refine U.ifDi (fun h0 => ?_) (fun h0 => ?_)
    · rcases k with ⟨k1, k⟩ | ⟨k1, k⟩
      · exact absurd h0 k1
      · exact k
    · rcases k with ⟨k1, k⟩ | ⟨k1, k⟩
      · have hg := gcd_pos (h := h) k1
        have hlog : ((Nat.gcd h.natAbs l.natAbs : Nat) : Int).natAbs.log2 < 9000 := low_log (i := l) (by omega) (by rw [Int.natAbs_natCast]; exact Nat.gcd_le_right _ (by omega)) sl
        have hlog2 : (-((Nat.gcd h.natAbs l.natAbs : Nat) : Int)).natAbs.log2 < 9000 := by
          rw [Int.natAbs_neg]
          exact hlog
        walk_at "w"
        refine U.ifD (fun hn => ?_) (fun hn => ?_)
        · obtain ⟨e1, e2⟩ := init_neg (h := h) hn
          walk_at "w"
          refine ⟨a, _, dx, [], rfl, ea, T.cls_Ratio, T.na_Ratio_top, by decide, ?_⟩
          walk_at "w"
          refine ⟨a, _, dx, _, rfl, upd_same, T.cls_Ratio, T.na_Ratio_bottom, (by show 1 < 1000; decide), ?_⟩
          refine k _ (fun b hb => by rw [upd_ne hb, upd_ne hb]) ⟨dx, ?_⟩
          rw [upd_same, ← e1, ← e2] <;> rfl
        · obtain ⟨e1, e2⟩ := init_pos (h := h) (l := l) (by omega)
          walk_at "w"
          refine ⟨a, _, dx, [], rfl, ea, T.cls_Ratio, T.na_Ratio_top, by decide, ?_⟩
          walk_at "w"
          refine ⟨a, _, dx, _, rfl, upd_same, T.cls_Ratio, T.na_Ratio_bottom, (by show 1 < 1000; decide), ?_⟩
          refine k _ (fun b hb => by rw [upd_ne hb, upd_ne hb]) ⟨dx, ?_⟩
          rw [upd_same, ← e1, ← e2] <;> rfl
      · exact absurd k1 h0
theorem ok_Ratio_top (T : Top K mg A) : FnOk P w K mg base CX0 1 A.a_Ratio_top A.fd_Ratio_top ["self"] (getSp A.c_Ratio "_top") := by
  refine T.F_Ratio_top.ok sc_Ratio_top (fun vs H Q E h => ?_) (fun cdv A' outer s H vs Q E hr h => ?_)
  · obtain ⟨a, dx, fs, v, rfl, _⟩ := h
    rfl
  · obtain ⟨a, dx, fs, v, rfl, ea, l, q⟩ := h
    refine ⟨_, (pss_one (ps_ret (pe_fld (pv 0) rfl))), ?_⟩
    walk_at "w"
    exact ⟨a, _, dx, fs, v, rfl, ea, T.cls_Ratio, T.na_Ratio_top, l, q⟩
theorem ok_Ratio_bottom (T : Top K mg A) : FnOk P w K mg base CX0 1 A.a_Ratio_bottom A.fd_Ratio_bottom ["self"] (getSp A.c_Ratio "_bottom") := by
  refine T.F_Ratio_bottom.ok sc_Ratio_bottom (fun vs H Q E h => ?_) (fun cdv A' outer s H vs Q E hr h => ?_)
  · obtain ⟨a, dx, fs, v, rfl, _⟩ := h
    rfl
  · obtain ⟨a, dx, fs, v, rfl, ea, l, q⟩ := h
    refine ⟨_, (pss_one (ps_ret (pe_fld (pv 0) rfl))), ?_⟩
    walk_at "w"
    exact ⟨a, _, dx, fs, v, rfl, ea, T.cls_Ratio, T.na_Ratio_bottom, l, q⟩
/-- the readings of e.top, e.bottom, self._top, self._bottom at a quotient -/
theorem rdTop {C : Addr} {H : Hp} {a : Addr} {p q : Int} {Q : VK} {E : XK} (r : RtAt C H a p q) (k : Q (.int p) H) : ∃ (a' dx : Addr) (fs : List (Str × V)), V.ref a = V.ref a' ∧ H a' = some (.ins C dx fs) ∧ getSp C "_top" [.ref a'] H Q E := by
  obtain ⟨dx, e⟩ := r
  exact ⟨a, dx, _, rfl, e, a, dx, _, .int p, rfl, e, rfl, k⟩
theorem rdBot {C : Addr} {H : Hp} {a : Addr} {p q : Int} {Q : VK} {E : XK} (r : RtAt C H a p q) (k : Q (.int q) H) : ∃ (a' dx : Addr) (fs : List (Str × V)), V.ref a = V.ref a' ∧ H a' = some (.ins C dx fs) ∧ getSp C "_bottom" [.ref a'] H Q E := by
  obtain ⟨dx, e⟩ := r
  exact ⟨a, dx, _, rfl, e, a, dx, _, .int q, rfl, e, rfl, k⟩
theorem fTop {H : Hp} {a : Addr} {p q : Int} {Q : VK} (T : Top K mg A) (r : RtAt A.c_Ratio H a p q) (k : Q (.int p) H) : ∃ (a' C dx : Addr) (fs : List (Str × V)) (v : V), V.ref a = V.ref a' ∧ H a' = some (.ins C dx fs) ∧ Cls K C ∧ NoAttr K C "_top" ∧ fs.lookup ("_top" : Str) = some v ∧ Q v H := by
  obtain ⟨dx, e⟩ := r
  exact ⟨a, _, dx, _, .int p, rfl, e, T.cls_Ratio, T.na_Ratio_top, rfl, k⟩
theorem fBot {H : Hp} {a : Addr} {p q : Int} {Q : VK} (T : Top K mg A) (r : RtAt A.c_Ratio H a p q) (k : Q (.int q) H) : ∃ (a' C dx : Addr) (fs : List (Str × V)) (v : V), V.ref a = V.ref a' ∧ H a' = some (.ins C dx fs) ∧ Cls K C ∧ NoAttr K C "_bottom" ∧ fs.lookup ("_bottom" : Str) = some v ∧ Q v H := by
  obtain ⟨dx, e⟩ := r
  exact ⟨a, _, dx, _, .int q, rfl, e, T.cls_Ratio, T.na_Ratio_bottom, rfl, k⟩
/-- a quotient's class -/
theorem tyO (T : Top K mg A) {H : Hp} {a : Addr} {p q : Int} (r : RtAt A.c_Ratio H a p q) : TyOf K H (.ref a) (.ref A.c_Ratio) := by
  obtain ⟨dx, e⟩ := r
  exact .ins e T.cls_Ratio T.ca_Ratio T.cn T.ct T.cm_Ratio
theorem tyR (T : Top K mg A) {H : Hp} {a : Addr} {p q : Int} (r : RtAt A.c_Ratio H a p q) : TyX K H (.ref a) (.ref A.c_Ratio) := .base (tyO T r)
def spTerms (C : Addr) : Sp := fun vs H Q _ => ∃ v p q, vs = [v] ∧ RepV C H v p q ∧ ∀ (t : Addr) H', H t = none → upd H t (.tup [.int p, .int q]) = H' → Q (.ref t) H'
theorem ok_terms (T : Top K mg A) : FnOk P w K mg base CX0 3 A.a_terms A.fd_terms ["number"] (spTerms A.c_Ratio) := by
  refine T.F_terms.ok sc_terms (fun vs H Q E h => ?_) (fun cdv A' outer s H vs Q E hr h => ?_)
  · obtain ⟨v, p, q, rfl, _⟩ := h
    rfl
  · obtain ⟨v, p, q, rfl, r, k⟩ := h
    refine ⟨_, (pss_cons (ps_if (pt_val (pe_callB call_isi (by rfl) T.n_isinstance (by decide +kernel) (pa_cons (pv 0) (pa_cons (pe_glob (v := .ref A.c_Ratio) rfl T.m_Ratio rfl) pa_nil)))) (pss_one (ps_ret (pe_tup (pa_cons (pe_prop (pv 0) T.cls_Ratio T.pr_Ratio_top (ok_Ratio_top T) (hr.mono (by decide)) T.b_Ratio_top .nil pass0 rfl) (pa_cons (pe_prop (pv 0) T.cls_Ratio T.pr_Ratio_bottom (ok_Ratio_bottom T) (hr.mono (by decide)) T.b_Ratio_bottom .nil pass0 rfl) pa_nil))))) pss_nil)
    (pss_one (ps_ret (pe_tup (pa_cons (pv 0) (pa_cons pe_int pa_nil)))))), ?_⟩
    rcases r with ⟨a, rfl, r⟩ | ⟨rfl, rfl⟩
    · walk_at "w"
      refine ⟨_, _, _, _, true, rfl, .own _, tyR T r, kit_self, ?_⟩
      walk_at "w"
      refine rdTop r ?_
      walk_at "w"
      refine rdBot r ?_
      walk_at "w"
      exact fun t nt => k t _ nt rfl
    · walk_at "w"
      refine ⟨_, _, _, _, false, rfl, .own _, .base (.int _), T.ki_Ratio_int, ?_⟩
      walk_at "w"
      exact fun t nt => k t _ nt rfl
end
section
variable {P : Program} {w : World} {K : PySem.W.Frag} {mg : Str → Option Value} {base : Heap} {A : Ad}
abbrev Md (i : Int) : Prop := i.natAbs < 2 ^ 1000
theorem md_mul {i j : Int} (hi : Md i) (hj : Md j) : (i * j).natAbs < 2 ^ 2000 := wide_lt hi hj
theorem sm_mul {i j : Int} (hi : Md i) (hj : Md j) : Sm (i * j) := Nat.lt_trans (md_mul hi hj) (Nat.pow_lt_pow_right (by decide) (by decide))
theorem pow2001 : (2 : Nat) ^ 2001 = 2 ^ 2000 + 2 ^ 2000 := (Nat.pow_succ (n := 2) (m := 2000)).trans (Nat.mul_two _)
theorem dI {a b : Int} : decide (V.int a = V.int b) = decide (a = b) := by
  by_cases h : a = b
  · rw [h, decide_eq_true rfl, decide_eq_true rfl]
  · rw [decide_eq_false h, decide_eq_false fun q => h (V.int.inj q)]
theorem sm_add {i j : Int} (hi : i.natAbs < 2 ^ 2000) (hj : j.natAbs < 2 ^ 2000) : Sm (i + j) := by
  have h1 : (i + j).natAbs ≤ i.natAbs + j.natAbs := Int.natAbs_add_le i j
  have h2 : (2 : Nat) ^ 2001 < 2 ^ 4000 := Nat.pow_lt_pow_right (by decide) (by decide)
  have h3 := pow2001
  exact Nat.lt_trans (Nat.lt_of_le_of_lt h1 (by omega)) h2
theorem sm_sub {i j : Int} (hi : i.natAbs < 2 ^ 2000) (hj : j.natAbs < 2 ^ 2000) : Sm (i - j) := by
  rw [Int.sub_eq_add_neg]
  exact sm_add hi (by rw [Int.natAbs_neg]; exact hj)
theorem cmM {i j : Int} (hi : Md i) (hj : Md j) : CMulW i j := wide_mul hi hj (by decide) (by decide) (by decide)
/-- a new quotient, made -/
theorem mkR {C B : Addr} {H : Hp} {Q : VK} {E : XK} {h l : Int} (sh : Sm h) (sl : Sm l) (hl : l ≠ 0) (k : ∀ x H', H x = none → Same H H' → RtAt C H' x (topOf h l) (botOf h l) → Q (.ref x) H') :
    ∀ x dx, H x = none → H dx = none → dx ≠ x → spInit C B [.ref x, .int h, .int l] (upd (upd H dx (.own x)) x (.ins C dx [])) (fun v H2 => v = .non ∧ Q (.ref x) H2) E := by
  intro x dx hx hd hne
  refine ⟨x, dx, h, l, rfl, upd_same, sh, sl, .inl ⟨hl, fun H' hb r => ⟨rfl, k x H' hx (fun b o e => ?_) r⟩⟩⟩
  rw [hb b (ne_of_none e hx), upd_ne (ne_of_none e hx), upd_ne (ne_of_none e hd)]
  exact e
def spBin (C : Addr) (g : Int → Int → Int → Int → Int × Int) : Sp := fun vs H Q _ => ∃ (a : Addr) (v : V) (p q r s : Int), vs = [.ref a, v] ∧ RtAt C H a p q ∧ RepV C H v r s ∧ Md p ∧ Md q ∧ Md r ∧ Md s ∧ (g p q r s).2 ≠ 0 ∧
  ∀ x H', H x = none → Same H H' → RtAt C H' x (topOf (g p q r s).1 (g p q r s).2) (botOf (g p q r s).1 (g p q r s).2) → Q (.ref x) H'
abbrev gAdd (p q r s : Int) : Int × Int := (p * s + r * q, q * s)
abbrev gSub (p q r s : Int) : Int × Int := (p * s - r * q, q * s)
abbrev gMul (p q r s : Int) : Int × Int := (p * r, q * s)
theorem ok_Ratio_add (T : Top K mg A) : FnOk P w K mg base CX0 4 A.a_Ratio_add A.fd_Ratio_add ["self", "other"] (spBin A.c_Ratio gAdd) := by
  refine T.F_Ratio_add.ok sc_Ratio_add (fun vs H Q E h => ?_) (fun cdv A' outer s H vs Q E hr h => ?_)
  · obtain ⟨a, v, p, q, r, s, rfl, _⟩ := h
    rfl
  · obtain ⟨a, v, p, q, r, s, rfl, ra, rv, hp, hq, hr', hs, hne, k⟩ := h
    refine ⟨_, (pss_cons (ps_asg (pe_call (ok_terms T) (hr.mono (by decide)) rfl T.m_terms T.F_terms.kp T.b_terms .nil pass0 (pa_cons (pv 1) pa_nil)) (pg_tup rfl (pgs_cons (pg_name (i := 2) sc_Ratio_add.nd rfl (Or.inl rfl)) (pgs_cons (pg_name (i := 3) sc_Ratio_add.nd rfl (Or.inl rfl)) pgs_nil))))
    (pss_one (ps_ret (pe_make T.mk_Ratio (ok_Ratio_init T) (hr.mono (by decide)) rfl T.m_Ratio T.b_Ratio_init .nil passL (pa_cons (pe_op U.uAdd (pe_op op_mulW (pe_fld (pv 0) rfl) (pv 3)) (pe_op op_mulW (pv 2) (pe_fld (pv 0) rfl))) (pa_cons (pe_op op_mulW (pe_fld (pv 0) rfl) (pv 3)) pa_nil)))))), ?_⟩
    walk_at "w"
    refine ⟨v, r, s, rfl, rv, fun t H1 nt h1 => ?_⟩
    obtain ⟨s1, g1⟩ := U.newF nt h1
    obtain ⟨dx0, er⟩ := ra.same s1
    refine ⟨t, _, rfl, SqT.of g1, rfl, ?_⟩
    walk_at "w"
    refine ⟨a, _, dx0, _, _, rfl, er, T.cls_Ratio, T.na_Ratio_top, rfl, ?_⟩
    walk_at "w"
    refine ⟨cmM hp hs, ?_⟩
    walk_at "w"
    refine ⟨a, _, dx0, _, _, rfl, er, T.cls_Ratio, T.na_Ratio_bottom, rfl, ?_⟩
    walk_at "w"
    refine ⟨cmM hr' hq, ?_⟩
    walk_at "w"
    refine ⟨a, _, dx0, _, _, rfl, er, T.cls_Ratio, T.na_Ratio_bottom, rfl, ?_⟩
    walk_at "w"
    refine ⟨cmM hq hs, ?_⟩
    walk_at "w"
    exact mkR (sm_add (md_mul hp hs) (md_mul hr' hq)) (sm_mul hq hs) hne fun x H2 nx s2 r2 => k x H2 (Same.free s1 nx) (s1.trans s2) r2
theorem ok_Ratio_sub (T : Top K mg A) : FnOk P w K mg base CX0 4 A.a_Ratio_sub A.fd_Ratio_sub ["self", "other"] (spBin A.c_Ratio gSub) := by
  refine T.F_Ratio_sub.ok sc_Ratio_sub (fun vs H Q E h => ?_) (fun cdv A' outer s H vs Q E hr h => ?_)
  · obtain ⟨a, v, p, q, r, s, rfl, _⟩ := h
    rfl
  · obtain ⟨a, v, p, q, r, s, rfl, ra, rv, hp, hq, hr', hs, hne, k⟩ := h
    refine ⟨_, (pss_cons (ps_asg (pe_call (ok_terms T) (hr.mono (by decide)) rfl T.m_terms T.F_terms.kp T.b_terms .nil pass0 (pa_cons (pv 1) pa_nil)) (pg_tup rfl (pgs_cons (pg_name (i := 2) sc_Ratio_sub.nd rfl (Or.inl rfl)) (pgs_cons (pg_name (i := 3) sc_Ratio_sub.nd rfl (Or.inl rfl)) pgs_nil))))
    (pss_one (ps_ret (pe_make T.mk_Ratio (ok_Ratio_init T) (hr.mono (by decide)) rfl T.m_Ratio T.b_Ratio_init .nil passL (pa_cons (pe_op op_sub (pe_op op_mulW (pe_fld (pv 0) rfl) (pv 3)) (pe_op op_mulW (pv 2) (pe_fld (pv 0) rfl))) (pa_cons (pe_op op_mulW (pe_fld (pv 0) rfl) (pv 3)) pa_nil)))))), ?_⟩
    walk_at "w"
    refine ⟨v, r, s, rfl, rv, fun t H1 nt h1 => ?_⟩
    obtain ⟨s1, g1⟩ := U.newF nt h1
    obtain ⟨dx0, er⟩ := ra.same s1
    refine ⟨t, _, rfl, SqT.of g1, rfl, ?_⟩
    walk_at "w"
    refine ⟨a, _, dx0, _, _, rfl, er, T.cls_Ratio, T.na_Ratio_top, rfl, ?_⟩
    walk_at "w"
    refine ⟨cmM hp hs, ?_⟩
    walk_at "w"
    refine ⟨a, _, dx0, _, _, rfl, er, T.cls_Ratio, T.na_Ratio_bottom, rfl, ?_⟩
    walk_at "w"
    refine ⟨cmM hr' hq, ?_⟩
    walk_at "w"
    refine ⟨a, _, dx0, _, _, rfl, er, T.cls_Ratio, T.na_Ratio_bottom, rfl, ?_⟩
    walk_at "w"
    refine ⟨cmM hq hs, ?_⟩
    walk_at "w"
    exact mkR (sm_sub (md_mul hp hs) (md_mul hr' hq)) (sm_mul hq hs) hne fun x H2 nx s2 r2 => k x H2 (Same.free s1 nx) (s1.trans s2) r2
theorem ok_Ratio_mul (T : Top K mg A) : FnOk P w K mg base CX0 4 A.a_Ratio_mul A.fd_Ratio_mul ["self", "other"] (spBin A.c_Ratio gMul) := by
  refine T.F_Ratio_mul.ok sc_Ratio_mul (fun vs H Q E h => ?_) (fun cdv A' outer s H vs Q E hr h => ?_)
  · obtain ⟨a, v, p, q, r, s, rfl, _⟩ := h
    rfl
  · obtain ⟨a, v, p, q, r, s, rfl, ra, rv, hp, hq, hr', hs, hne, k⟩ := h
    refine ⟨_, (pss_cons (ps_asg (pe_call (ok_terms T) (hr.mono (by decide)) rfl T.m_terms T.F_terms.kp T.b_terms .nil pass0 (pa_cons (pv 1) pa_nil)) (pg_tup rfl (pgs_cons (pg_name (i := 2) sc_Ratio_mul.nd rfl (Or.inl rfl)) (pgs_cons (pg_name (i := 3) sc_Ratio_mul.nd rfl (Or.inl rfl)) pgs_nil))))
    (pss_one (ps_ret (pe_make T.mk_Ratio (ok_Ratio_init T) (hr.mono (by decide)) rfl T.m_Ratio T.b_Ratio_init .nil passL (pa_cons (pe_op op_mulW (pe_fld (pv 0) rfl) (pv 2)) (pa_cons (pe_op op_mulW (pe_fld (pv 0) rfl) (pv 3)) pa_nil)))))), ?_⟩
    walk_at "w"
    refine ⟨v, r, s, rfl, rv, fun t H1 nt h1 => ?_⟩
    obtain ⟨s1, g1⟩ := U.newF nt h1
    obtain ⟨dx0, er⟩ := ra.same s1
    refine ⟨t, _, rfl, SqT.of g1, rfl, ?_⟩
    walk_at "w"
    refine ⟨a, _, dx0, _, _, rfl, er, T.cls_Ratio, T.na_Ratio_top, rfl, ?_⟩
    walk_at "w"
    refine ⟨cmM hp hr', ?_⟩
    walk_at "w"
    refine ⟨a, _, dx0, _, _, rfl, er, T.cls_Ratio, T.na_Ratio_bottom, rfl, ?_⟩
    walk_at "w"
    refine ⟨cmM hq hs, ?_⟩
    walk_at "w"
    exact mkR (sm_mul hp hr') (sm_mul hq hs) hne fun x H2 nx s2 r2 => k x H2 (Same.free s1 nx) (s1.trans s2) r2
def spOver (C B : Addr) : Sp := fun vs H Q E => ∃ (a : Addr) (v : V) (p q r s : Int), vs = [.ref a, v] ∧ RtAt C H a p q ∧ RepV C H v r s ∧ Md p ∧ Md q ∧ Md r ∧ Md s ∧
  ((q * r ≠ 0 ∧ ∀ x H', H x = none → Same H H' → RtAt C H' x (topOf (p * s) (q * r)) (botOf (p * s) (q * r)) → Q (.ref x) H') ∨ (q * r = 0 ∧ ∀ H', Same H H' → E (.ref B) none H'))
theorem ok_Ratio_over (T : Top K mg A) : FnOk P w K mg base (L2.CX P w) 4 A.a_Ratio_over A.fd_Ratio_over ["self", "number"] (spOver A.c_Ratio A.c_ByZero) := by
  refine T.F_Ratio_over.okX sc_Ratio_over (fun vs H Q E h => ?_) (fun cdv A' outer s H vs Q E hr h => ?_)
  · obtain ⟨a, v, p, q, r, s, rfl, _⟩ := h
    rfl
  · obtain ⟨a, v, p, q, r, s, rfl, ra, rv, hp, hq, hr', hs, k⟩ := h
    refine ⟨_, (pss_cons (ps_asg (pe_call (ok_terms T) (hr.mono (by decide)) rfl T.m_terms T.F_terms.kp T.b_terms .nil pass0 (pa_cons (pv 1) pa_nil)) (pg_tup rfl (pgs_cons (pg_name (i := 2) sc_Ratio_over.nd rfl (Or.inl rfl)) (pgs_cons (pg_name (i := 3) sc_Ratio_over.nd rfl (Or.inl rfl)) pgs_nil))))
    (pss_one (ps_ret (pe_make T.mk_Ratio (ok_Ratio_init T) (hr.mono (by decide)) rfl T.m_Ratio T.b_Ratio_init .nil (passes_call (E := E) (takes_of rfl rfl rfl rfl) (fun _ _ _ _ h => h)) (pa_cons (pe_op op_mulW (pe_fld (pv 0) rfl) (pv 3)) (pa_cons (pe_op op_mulW (pe_fld (pv 0) rfl) (pv 2)) pa_nil)))))), ?_⟩
    walk_at "w"
    refine ⟨v, r, s, rfl, rv, fun t H1 nt h1 => ?_⟩
    obtain ⟨s1, g1⟩ := U.newF nt h1
    obtain ⟨dx0, er⟩ := ra.same s1
    refine ⟨t, _, rfl, SqT.of g1, rfl, ?_⟩
    walk_at "w"
    refine ⟨a, _, dx0, _, _, rfl, er, T.cls_Ratio, T.na_Ratio_top, rfl, ?_⟩
    walk_at "w"
    refine ⟨cmM hp hs, ?_⟩
    walk_at "w"
    refine ⟨a, _, dx0, _, _, rfl, er, T.cls_Ratio, T.na_Ratio_bottom, rfl, ?_⟩
    walk_at "w"
    refine ⟨cmM hq hr', ?_⟩
    walk_at "w"
    rcases k with ⟨hne, k⟩ | ⟨h0, k⟩
    · exact mkR (sm_mul hp hs) (sm_mul hq hr') hne fun x H2 nx s2 r2 => k x H2 (Same.free s1 nx) (s1.trans s2) r2
    · intro x dx hx hd hne
      refine ⟨x, dx, _, _, rfl, upd_same, sm_mul hp hs, sm_mul hq hr', .inr ⟨h0, k _ (s1.trans fun b o e => ?_)⟩⟩
      rw [upd_ne (ne_of_none e hx), upd_ne (ne_of_none e hd)]
      exact e
def spBelow (C : Addr) : Sp := fun vs H Q _ => ∃ (a : Addr) (v : V) (p q r s : Int), vs = [.ref a, v] ∧ RtAt C H a p q ∧ RepV C H v r s ∧ Md p ∧ Md q ∧ Md r ∧ Md s ∧ ∀ H', Same H H' → Q (.bl (decide (p * s < r * q))) H'
theorem ok_Ratio_below (T : Top K mg A) : FnOk P w K mg base CX0 4 A.a_Ratio_below A.fd_Ratio_below ["self", "number"] (spBelow A.c_Ratio) := by
  refine T.F_Ratio_below.ok sc_Ratio_below (fun vs H Q E h => ?_) (fun cdv A' outer s H vs Q E hr h => ?_)
  · obtain ⟨a, v, p, q, r, s, rfl, _⟩ := h
    rfl
  · obtain ⟨a, v, p, q, r, s, rfl, ra, rv, hp, hq, hr', hs, k⟩ := h
    refine ⟨_, (pss_cons (ps_asg (pe_call (ok_terms T) (hr.mono (by decide)) rfl T.m_terms T.F_terms.kp T.b_terms .nil pass0 (pa_cons (pv 1) pa_nil)) (pg_tup rfl (pgs_cons (pg_name (i := 2) sc_Ratio_below.nd rfl (Or.inl rfl)) (pgs_cons (pg_name (i := 3) sc_Ratio_below.nd rfl (Or.inl rfl)) pgs_nil))))
    (pss_one (ps_ret (pe_cmpR U.uLt (pe_op op_mulW (pe_fld (pv 0) rfl) (pv 3)) (pe_op op_mulW (pv 2) (pe_fld (pv 0) rfl)) (nomark _))))), ?_⟩
    walk_at "w"
    refine ⟨v, r, s, rfl, rv, fun t H1 nt h1 => ?_⟩
    obtain ⟨s1, g1⟩ := U.newF nt h1
    obtain ⟨dx0, er⟩ := ra.same s1
    refine ⟨t, _, rfl, SqT.of g1, rfl, ?_⟩
    walk_at "w"
    refine ⟨a, _, dx0, _, _, rfl, er, T.cls_Ratio, T.na_Ratio_top, rfl, ?_⟩
    walk_at "w"
    refine ⟨cmM hp hs, ?_⟩
    walk_at "w"
    refine ⟨a, _, dx0, _, _, rfl, er, T.cls_Ratio, T.na_Ratio_bottom, rfl, ?_⟩
    walk_at "w"
    refine ⟨cmM hr' hq, ?_⟩
    walk_at "w"
    exact k _ s1
def spWritten (C : Addr) : Sp := fun vs H Q _ => ∃ (a : Addr) (p q : Int), vs = [.ref a] ∧ RtAt C H a p q ∧ Md p ∧ Md q ∧ Q (.str (if q = 1 then (toString p : Str) else (toString p : Str) ++ "/" ++ (toString q : Str))) H
theorem md_log {i : Int} (h : Md i) : i.natAbs.log2 < 1920 := Nat.lt_trans (PySem.Flt.log2_lt_of (by decide) h) (by decide)
theorem ok_Ratio_written (T : Top K mg A) : FnOk P w K mg base CX0 1 A.a_Ratio_written A.fd_Ratio_written ["self"] (spWritten A.c_Ratio) := by
  refine T.F_Ratio_written.ok sc_Ratio_written (fun vs H Q E h => ?_) (fun cdv A' outer s H vs Q E hr h => ?_)
  · obtain ⟨a, p, q, rfl, _⟩ := h
    rfl
  · obtain ⟨a, p, q, rfl, ⟨dx0, er⟩, hp, hq, k⟩ := h
    refine ⟨_, (pss_cons (ps_if (pt_cmpR (U.uEq (K := K) rfl hr.units) (pe_fld (pv 0) rfl) pe_int (nomark _)) (pss_one (ps_ret (pe_callTy call_str_int (by rfl) T.n_str (by decide +kernel) (pa_cons (pe_fld (pv 0) rfl) pa_nil)))) pss_nil)
    (pss_one (ps_ret (pe_op U.uAdd (pe_op U.uAdd (pe_callTy call_str_int (by rfl) T.n_str (by decide +kernel) (pa_cons (pe_fld (pv 0) rfl) pa_nil)) pe_str) (pe_callTy call_str_int (by rfl) T.n_str (by decide +kernel) (pa_cons (pe_fld (pv 0) rfl) pa_nil)))))), ?_⟩
    walk_at "w"
    refine ⟨a, _, dx0, _, _, rfl, er, T.cls_Ratio, T.na_Ratio_bottom, rfl, ?_⟩
    walk_at "w"
    refine U.ifDi (fun h1 => ?_) (fun h1 => ?_)
    · rw [if_pos h1] at k
      walk_at "w"
      refine ⟨a, _, dx0, _, _, rfl, er, T.cls_Ratio, T.na_Ratio_top, rfl, ?_⟩
      walk_at "w"
      refine ⟨md_log hp, ?_⟩
      walk_at "w"
      exact k
    · rw [if_neg h1] at k
      walk_at "w"
      refine ⟨a, _, dx0, _, _, rfl, er, T.cls_Ratio, T.na_Ratio_top, rfl, ?_⟩
      walk_at "w"
      refine ⟨md_log hp, ?_⟩
      have l1 := PyProof.Rows.int_text_len_1921 (md_log hp)
      have l2 := PyProof.Rows.int_text_len_1921 (md_log hq)
      walk_at "w"
      refine Or.inr (Or.inl ⟨_, _, rfl, rfl, U.sz (by show _ + 1 ≤ _; omega), ?_⟩)
      walk_at "w"
      refine ⟨a, _, dx0, _, _, rfl, er, T.cls_Ratio, T.na_Ratio_bottom, rfl, ?_⟩
      walk_at "w"
      refine ⟨md_log hq, ?_⟩
      walk_at "w"
      refine Or.inr (Or.inl ⟨_, _, rfl, rfl, U.sz (by rw [Str.length_append]; show _ + 1 + _ ≤ _; omega), ?_⟩)
      exact k
/-- a value that is no quotient and no integer -/
def Odd (K : PySem.W.Frag) (C : Addr) (H : Hp) (v : V) : Prop := ∃ T, TyOf K H v (.type T) ∧ PySem.W.kitOne K (.type T) (.ref C) = some false ∧ PySem.W.notFirst K C (.type T) = true ∧ (T = "bool" ∨ kitB T "int" = some false)
def spEq2 (K : PySem.W.Frag) (C : Addr) : Sp := fun vs H Q _ => ∃ (a : Addr) (v : V) (p q : Int), vs = [.ref a, v] ∧ RtAt C H a p q ∧
  ((∃ r s, RepV C H v r s ∧ Q (.bl (decide (p = r) && decide (q = s))) H) ∨ (Odd K C H v ∧ Q (.bl false) H))
theorem ok_Ratio_eq (T : Top K mg A) : FnOk P w K mg base CX0 3 A.a_Ratio_eq A.fd_Ratio_eq ["self", "other"] (spEq2 K A.c_Ratio) := by
  refine T.F_Ratio_eq.ok sc_Ratio_eq (fun vs H Q E h => ?_) (fun cdv A' outer s H vs Q E hr h => ?_)
  · obtain ⟨a, v, p, q, rfl, _⟩ := h
    rfl
  · obtain ⟨a, v, p, q, rfl, ⟨dx0, er⟩, k⟩ := h
    refine ⟨_, (pss_cons (ps_if (pt_val (pe_callB call_isi (by rfl) T.n_isinstance (by decide +kernel) (pa_cons (pv 1) (pa_cons (pe_glob (v := .ref A.c_Ratio) rfl T.m_Ratio rfl) pa_nil)))) (pss_one (ps_ret (pe_and (pe_cmpR (U.uEq (K := K) rfl hr.units) (pe_fld (pv 0) rfl) (pe_prop (pv 1) T.cls_Ratio T.pr_Ratio_top (ok_Ratio_top T) (hr.mono (by decide)) T.b_Ratio_top .nil pass0 rfl) (nomark _)) (pe_one (pe_cmpR (U.uEq (K := K) rfl hr.units) (pe_fld (pv 0) rfl) (pe_prop (pv 1) T.cls_Ratio T.pr_Ratio_bottom (ok_Ratio_bottom T) (hr.mono (by decide)) T.b_Ratio_bottom .nil pass0 rfl) (nomark _)))))) pss_nil)
    (pss_cons (ps_if (PW.pt (pw_and (pt_val (pe_callB call_isi (by rfl) T.n_isinstance (by decide +kernel) (pa_cons (pv 1) (pa_cons (pe_bltn (v := .ty "int") (by rfl) T.n_int (by decide +kernel) rfl) pa_nil)))) (pw_and1 (pt_not (pt_val (pe_callB call_isi (by rfl) T.n_isinstance (by decide +kernel) (pa_cons (pv 1) (pa_cons (pe_bltn (v := .ty "bool") (by rfl) T.n_bool (by decide +kernel) rfl) pa_nil)))))))) (pss_one (ps_ret (pe_and (pe_cmpR (U.uEq (K := K) rfl hr.units) (pe_fld (pv 0) rfl) pe_int (nomark _)) (pe_one (pe_cmpR (U.uEq (K := K) rfl hr.units) (pe_fld (pv 0) rfl) (pv 1) (nomark _)))))) pss_nil)
    (pss_one (ps_ret pe_bl)))), ?_⟩
    rcases k with ⟨r, s, ⟨b, rfl, rb⟩ | ⟨rfl, rfl⟩, k⟩ | ⟨⟨Ty, ty, k1, k2, k3⟩, k⟩
    · walk_at "w"
      refine ⟨_, _, _, _, true, rfl, .own _, tyR T rb, kit_self, ?_⟩
      walk_at "w"
      refine ⟨a, _, dx0, _, _, rfl, er, T.cls_Ratio, T.na_Ratio_top, rfl, ?_⟩
      walk_at "w"
      refine rdTop rb ?_
      walk_at "w"
      refine U.ifDi (fun h1 => ?_) (fun h1 => ?_)
      · rw [decide_eq_true h1, Bool.true_and] at k
        walk_at "w"
        refine ⟨a, _, dx0, _, _, rfl, er, T.cls_Ratio, T.na_Ratio_bottom, rfl, ?_⟩
        walk_at "w"
        refine rdBot rb ?_
        walk_at "w"
        rw [dI]
        exact k
      · rw [decide_eq_false h1, Bool.false_and] at k
        exact k
    · walk_at "w"
      refine ⟨_, _, _, _, false, rfl, .own _, .base (.int _), T.ki_Ratio_int, ?_⟩
      walk_at "w"
      refine ⟨_, _, _, _, true, rfl, .ty _, .base (.int _), kit_ty (a := "int") (b := "int") (by decide +kernel), ?_⟩
      walk_at "w"
      refine ⟨_, _, _, _, false, rfl, .ty _, .base (.int _), kit_ty (a := "int") (b := "bool") (by decide +kernel), ?_⟩
      walk_at "w"
      refine ⟨a, _, dx0, _, _, rfl, er, T.cls_Ratio, T.na_Ratio_bottom, rfl, ?_⟩
      walk_at "w"
      rw [Bool.and_comm] at k
      refine U.ifDi (fun h1 => ?_) (fun h1 => ?_)
      · rw [decide_eq_true h1, Bool.true_and] at k
        walk_at "w"
        refine ⟨a, _, dx0, _, _, rfl, er, T.cls_Ratio, T.na_Ratio_top, rfl, ?_⟩
        walk_at "w"
        rw [dI]
        exact k
      · rw [decide_eq_false h1, Bool.false_and] at k
        exact k
    · walk_at "w"
      refine ⟨_, _, _, _, false, rfl, .own _, .base ty, k1, ?_⟩
      walk_at "w"
      rcases k3 with rfl | k3
      · refine ⟨_, _, _, _, true, rfl, .ty _, .base ty, kit_ty (a := "bool") (b := "int") (by decide +kernel), ?_⟩
        walk_at "w"
        refine ⟨_, _, _, _, true, rfl, .ty _, .base ty, kit_ty (a := "bool") (b := "bool") (by decide +kernel), ?_⟩
        walk_at "w"
        exact k
      · refine ⟨_, _, _, _, false, rfl, .ty _, .base ty, kit_ty k3, ?_⟩
        walk_at "w"
        exact k
end
section
variable {P : Program} {w : World} {K : PySem.W.Frag} {mg : Str → Option Value} {base : Heap} {A : Ad}
/-- below 2 ^ 100 -/
abbrev Fw (i : Int) : Prop := -(1267650600228229401496703205376) < i ∧ i < 1267650600228229401496703205376
def spNum : Sp := fun vs H Q _ => ∃ (b : Addr) (n : Nat), vs = [.ref b] ∧ U.BoxAt H b n ∧ n ≤ 90000 ∧ ∀ (i : Int) (H' : Hp), Fw i → U.BoxAt H' b (n + 3) → U.SameBut b H H' → Q (.int i) H'
theorem ok_law_number (T : Top K mg A) : FnOk P w K mg base CX0 2 A.a_law_number A.fd_law_number ["box"] spNum := by
  refine T.F_law_number.ok sc_law_number (fun vs H Q E h => ?_) (fun cdv A' outer s H vs Q E hr h => ?_)
  · obtain ⟨b, n, rfl, _⟩ := h
    rfl
  · obtain ⟨b, n, rfl, bx, hn, k⟩ := h
    refine ⟨_, (pss_cons (ps_set (i := 1) sc_law_number.nd rfl (Or.inl rfl) (pe_call (ok_law_take T) (hr.mono (by decide)) rfl T.m_law_take T.F_law_take.kp T.b_law_take .nil pass0 (pa_cons (pv 0) (pa_cons pe_int pa_nil))))
    (pss_cons (ps_if (pt_cmpR (U.uEq (K := K) rfl hr.units) (pv 1) pe_int (nomark _)) (pss_one (ps_ret (pe_op U.uAdd (pe_op U.uMul (pe_op op_sub (pe_call (ok_law_take T) (hr.mono (by decide)) rfl T.m_law_take T.F_law_take.kp T.b_law_take .nil pass0 (pa_cons (pv 0) (pa_cons (pe_op op_pow pe_int pe_int) pa_nil))) (pe_op U.uMul pe_int (pe_op op_pow pe_int pe_int))) (pe_op op_pow pe_int pe_int)) (pe_call (ok_law_take T) (hr.mono (by decide)) rfl T.m_law_take T.F_law_take.kp T.b_law_take .nil pass0 (pa_cons (pv 0) (pa_cons (pe_op op_pow pe_int pe_int) pa_nil)))))) pss_nil)
    (pss_one (ps_ret (pe_op op_sub (pe_call (ok_law_take T) (hr.mono (by decide)) rfl T.m_law_take T.F_law_take.kp T.b_law_take .nil pass0 (pa_cons (pv 0) (pa_cons (pe_ix (U.uIx (K := K) rfl) (pe_lst (pa_cons pe_int (pa_cons pe_int (pa_cons pe_int (pa_cons pe_int pa_nil))))) (pe_op op_sub (pv 1) pe_int) (fun _ _ => rfl)) pa_nil))) (pe_ix (U.uIx (K := K) rfl) (pe_lst (pa_cons pe_int (pa_cons pe_int (pa_cons pe_int (pa_cons pe_int pa_nil))))) (pe_op op_sub (pv 1) pe_int) (fun _ _ => rfl))))))), ?_⟩
    walk_at "w"
    refine ⟨b, _, n, rfl, bx, by omega, by decide, by decide, fun way H1 w0 w1 bx1 s1 => ?_⟩
    walk_at "w"
    refine U.ifDi (fun h0 => ?_) (fun h0 => ?_)
    · walk_at "w"
      refine ⟨b, _, _, rfl, bx1, by omega, by decide, by decide, fun d1 H2 d10 d11 bx2 s2 => ?_⟩
      have e9 : (10 : Int) ^ Int.toNat 9 = 1000000000 := by decide
      have e8 : (10 : Int) ^ Int.toNat 8 = 100000000 := by decide
      have e20 : (10 : Int) ^ Int.toNat 20 = 100000000000000000000 := by decide
      have e6 : (10 : Int) ^ Int.toNat 6 = 1000000 := by decide
      rw [e9] at d11
      walk_at "w"
      refine ⟨b, _, _, rfl, bx2, by omega, by decide, by decide, fun d2 H3 d20 d21 bx3 s3 => ?_⟩
      rw [e6] at d21
      walk_at "w"
      refine k _ _ ?_ bx3 ((s1.trans s2).trans s3)
      show Fw ((d1 - 5 * 10 ^ Int.toNat 8) * 10 ^ Int.toNat 20 + d2)
      rw [e8, e20]
      constructor <;> omega
    · obtain h1 | h1 | h1 | h1 : way = 1 ∨ way = 2 ∨ way = 3 ∨ way = 4 := by omega
      all_goals
        subst h1
        walk_at "w"
        intro p np
        generalize hX : upd H1 p _ = H2
        obtain ⟨s2, g2⟩ := U.newF np hX
        walk_at "w"
        refine ⟨b, _, n + 1, rfl, bx1.same s2, by omega, by decide, by decide, fun d1 H3 d10 d11 bx3 s3 => ?_⟩
        walk_at "w"
        intro p2 np2
        generalize hX2 : upd H3 p2 _ = H4
        obtain ⟨s4, g4⟩ := U.newF np2 hX2
        walk_at "w"
        exact k _ _ ⟨by omega, by omega⟩ ((bx3.same s4).mono (by omega)) (((s1.trans (U.SameBut.of s2)).trans s3).trans (U.SameBut.of s4))
def spPair : Sp := fun vs H Q _ => ∃ (b : Addr) (n : Nat), vs = [.ref b] ∧ U.BoxAt H b n ∧ n ≤ 80000 ∧ ∀ (h l : Int) (p : Addr) (H' : Hp), Fw h → Fw l → l ≠ 0 → H p = none → H' p = some (.tup [.int h, .int l]) → U.BoxAt H' b (n + 6) → U.SameBut b H H' → Q (.ref p) H'
theorem ok_law_pair (T : Top K mg A) : FnOk P w K mg base CX0 3 A.a_law_pair A.fd_law_pair ["box"] spPair := by
  refine T.F_law_pair.ok sc_law_pair (fun vs H Q E h => ?_) (fun cdv A' outer s H vs Q E hr h => ?_)
  · obtain ⟨b, n, rfl, _⟩ := h
    rfl
  · obtain ⟨b, n, rfl, bx, hn, k⟩ := h
    refine ⟨_, (pss_cons (ps_set (i := 1) sc_law_pair.nd rfl (Or.inl rfl) (pe_call (ok_law_number T) (hr.mono (by decide)) rfl T.m_law_number T.F_law_number.kp T.b_law_number .nil pass0 (pa_cons (pv 0) pa_nil)))
    (pss_one (ps_ret (pe_tup (pa_cons (pe_call (ok_law_number T) (hr.mono (by decide)) rfl T.m_law_number T.F_law_number.kp T.b_law_number .nil pass0 (pa_cons (pv 0) pa_nil)) (pa_cons (pe_ifExp (pt_cmpR (U.uEq (K := K) rfl hr.units) (pv 1) pe_int (nomark _)) pe_int (pv 1)) pa_nil)))))), ?_⟩
    walk_at "w"
    refine ⟨b, n, rfl, bx, by omega, fun l H1 fl bx1 s1 => ?_⟩
    walk_at "w"
    refine ⟨b, _, rfl, bx1, by omega, fun h H2 fh bx2 s2 => ?_⟩
    have sH := s1.trans s2
    obtain ⟨o, hb⟩ := bx.some
    have fin : ∀ l' p, Fw l' → l' ≠ 0 → H2 p = none → Q (.ref p) (upd H2 p (.tup [.int h, .int l'])) := fun l' p f1 f2 np => by
      have ne : p ≠ b := fun e => by
        obtain ⟨o, e2⟩ := bx2.some
        rw [e] at np
        rw [np] at e2
        cases e2
      exact k h l' p _ fh f1 f2 (U.SameBut.free sH ne np) upd_same (bx2.same (U.same_new np)) (sH.trans (U.SameBut.of (U.same_new np)))
    walk_at "w"
    refine U.ifDi (fun h0 => ?_) (fun h0 => ?_)
    · walk_at "w"
      exact fun p np => fin 1 p (by decide) (by decide) np
    · walk_at "w"
      exact fun p np => fin l p fl h0 np
def spTold (C : Addr) : Sp := fun vs H Q _ => ∃ (a : Addr) (p q : Int), vs = [.ref a] ∧ RtAt C H a p q ∧ ∀ (t : Addr) H', H t = none → upd H t (.tup [.int p, .int q]) = H' → Q (.ref t) H'
theorem ok_law_told (T : Top K mg A) : FnOk P w K mg base CX0 3 A.a_law_told A.fd_law_told ["ratio"] (spTold A.c_Ratio) := by
  refine T.F_law_told.ok sc_law_told (fun vs H Q E h => ?_) (fun cdv A' outer s H vs Q E hr h => ?_)
  · obtain ⟨a, p, q, rfl, _⟩ := h
    rfl
  · obtain ⟨a, p, q, rfl, ra, k⟩ := h
    refine ⟨_, (pss_one (ps_ret (pe_tup (pa_cons (pe_prop (pv 0) T.cls_Ratio T.pr_Ratio_top (ok_Ratio_top T) (hr.mono (by decide)) T.b_Ratio_top .nil pass0 rfl) (pa_cons (pe_prop (pv 0) T.cls_Ratio T.pr_Ratio_bottom (ok_Ratio_bottom T) (hr.mono (by decide)) T.b_Ratio_bottom .nil pass0 rfl) pa_nil))))), ?_⟩
    walk_at "w"
    refine rdTop ra ?_
    walk_at "w"
    refine rdBot ra ?_
    walk_at "w"
    exact fun t nt => k t _ nt rfl
def spText : Sp := fun vs H Q _ => ∃ (t : Addr) (p q : Int), vs = [.ref t] ∧ H t = some (.tup [.int p, .int q]) ∧ Md p ∧ Md q ∧ Q (.str (if q = 1 then (toString p : Str) else (toString p : Str) ++ "/" ++ (toString q : Str))) H
theorem ix0 {H : Hp} {t : Addr} {x y : V} {Q : VK} (K : PySem.W.Frag) (h : H t = some (.tup [x, y])) (k : Q x H) : rIx K (.ref t) (.int 0) H Q := Or.inr (Or.inl ⟨t, _, 0, x, rfl, rfl, SqT.of h, rfl, k⟩)
theorem ix1 {H : Hp} {t : Addr} {x y : V} {Q : VK} (K : PySem.W.Frag) (h : H t = some (.tup [x, y])) (k : Q y H) : rIx K (.ref t) (.int 1) H Q := Or.inr (Or.inl ⟨t, _, 1, y, rfl, rfl, SqT.of h, rfl, k⟩)
theorem ok_law_text (T : Top K mg A) : FnOk P w K mg base CX0 1 A.a_law_text A.fd_law_text ["pair"] spText := by
  refine T.F_law_text.ok sc_law_text (fun vs H Q E h => ?_) (fun cdv A' outer s H vs Q E hr h => ?_)
  · obtain ⟨a, p, q, rfl, _⟩ := h
    rfl
  · obtain ⟨t, p, q, rfl, ht, hp, hq, k⟩ := h
    refine ⟨_, (pss_one (ps_ret (pe_ifExp (pt_cmpR (U.uEq (K := K) rfl hr.units) (pe_ix (U.uIx (K := K) rfl) (pv 0) pe_int (fun _ _ => rfl)) pe_int (nomark _)) (pe_callTy call_str_int (by rfl) T.n_str (by decide +kernel) (pa_cons (pe_ix (U.uIx (K := K) rfl) (pv 0) pe_int (fun _ _ => rfl)) pa_nil)) (pe_op U.uAdd (pe_op U.uAdd (pe_callTy call_str_int (by rfl) T.n_str (by decide +kernel) (pa_cons (pe_ix (U.uIx (K := K) rfl) (pv 0) pe_int (fun _ _ => rfl)) pa_nil)) pe_str) (pe_callTy call_str_int (by rfl) T.n_str (by decide +kernel) (pa_cons (pe_ix (U.uIx (K := K) rfl) (pv 0) pe_int (fun _ _ => rfl)) pa_nil)))))), ?_⟩
    have i0 : ∀ {Q}, Q (.int p) H → rIx K (.ref t) (.int 0) H Q := fun q => ix0 K ht q
    have i1 : ∀ {Q}, Q (.int q) H → rIx K (.ref t) (.int 1) H Q := fun q => ix1 K ht q
    have l1 := PyProof.Rows.int_text_len_1921 (md_log hp)
    have l2 := PyProof.Rows.int_text_len_1921 (md_log hq)
    walk_at "w"
    refine Or.inr (Or.inl ⟨t, _, 1, _, rfl, rfl, SqT.of ht, rfl, ?_⟩)
    walk_at "w"
    refine U.ifDi (fun h1 => ?_) (fun h1 => ?_)
    · rw [if_pos h1] at k
      walk_at "w"
      refine Or.inr (Or.inl ⟨t, _, 0, _, rfl, rfl, SqT.of ht, rfl, ?_⟩)
      walk_at "w"
      refine ⟨md_log hp, ?_⟩
      exact k
    · rw [if_neg h1] at k
      walk_at "w"
      refine Or.inr (Or.inl ⟨t, _, 0, _, rfl, rfl, SqT.of ht, rfl, ?_⟩)
      walk_at "w"
      refine ⟨md_log hp, ?_⟩
      walk_at "w"
      refine Or.inr (Or.inl ⟨_, _, rfl, rfl, U.sz (by show _ + 1 ≤ _; omega), ?_⟩)
      walk_at "w"
      refine Or.inr (Or.inl ⟨t, _, 1, _, rfl, rfl, SqT.of ht, rfl, ?_⟩)
      walk_at "w"
      refine ⟨md_log hq, ?_⟩
      walk_at "w"
      refine Or.inr (Or.inl ⟨_, _, rfl, rfl, U.sz (by rw [Str.length_append]; show _ + 1 + _ ≤ _; omega), ?_⟩)
      exact k
end
section
variable {P : Program} {w : World} {K : PySem.W.Frag} {mg : Str → Option Value} {base : Heap} {A : Ad}
def overV (H' : Hp) (v : V) (p q r s : Int) : Prop := if q * r = 0 then v = .non else ∃ t, v = .ref t ∧ H' t = some (.tup [.int (topOf (p * s) (q * r)), .int (botOf (p * s) (q * r))])
def spOver2 (C : Addr) : Sp := fun vs H Q _ => ∃ (a : Addr) (v : V) (p q r s : Int), vs = [.ref a, v] ∧ RtAt C H a p q ∧ RepV C H v r s ∧ Md p ∧ Md q ∧ Md r ∧ Md s ∧ ∀ (u : V) (H' : Hp), Same H H' → overV H' u p q r s → Q u H'
theorem ok_law_over (T : Top K mg A) : FnOk P w K mg base CX0 6 A.a_law_over A.fd_law_over ["one", "other"] (spOver2 A.c_Ratio) := by
  refine T.F_law_over.ok sc_law_over (fun vs H Q E h => ?_) (fun cdv A' outer s H vs Q E hr h => ?_)
  · obtain ⟨a, v, p, q, r, s, rfl, _⟩ := h
    rfl
  · obtain ⟨a, v, p, q, r, s, rfl, ra, rv, hp, hq, hr', hs, k⟩ := h
    refine ⟨_, (pss_one (ps_try_only (tb := fun W => tRet (tCall (spTold A.c_Ratio) [] E0 (tCons (tMethA A.c_Ratio "over" (spOver A.c_Ratio A.c_ByZero) (WE W) (tVar 0) (tCons (tVar 1) tNil)) tNil))) (Wout := fun _ _ _ _ => False) rfl rfl ⟨rfl, by decide, Or.inl T.m_ByZero⟩ takes0 (fun W pn xe tk _ => (pss_one (ps_ret (by exact (pe_call (ok_law_told T) (hr.mono (by decide)) rfl T.m_law_told T.F_law_told.kp T.b_law_told .nil pass0 (by exact (pa_cons (by exact (pe_methA (pv 0) T.cls_Ratio T.me_Ratio_over (ok_Ratio_over T) (hr.mono (by decide)) T.b_Ratio_over (fun σ => passAt tk σ) (by exact (pa_cons (pv 1) pa_nil)))) pa_nil))))))) (fun a oe cls d pn hz hf => (pss_one (ps_ret pe_non))))), ?_⟩
    obtain ⟨dx0, er⟩ := ra
    walk_at "w"
    refine ⟨a, dx0, _, rfl, er, rfl, ?_⟩
    walk_at "w"
    by_cases h0 : q * r = 0
    · refine ⟨a, v, p, q, r, s, rfl, ⟨dx0, er⟩, rv, hp, hq, hr', hs, .inr ⟨h0, fun H' sH => ?_⟩⟩
      refine ⟨true, T.te_ByZero, fun _ a na => ?_, fun q => nomatch q⟩
      walk_at "w"
      refine k _ _ sH ?_
      unfold overV
      rw [if_pos h0]
    · refine ⟨a, v, p, q, r, s, rfl, ⟨dx0, er⟩, rv, hp, hq, hr', hs, .inl ⟨h0, fun x H' nx sH rx => ?_⟩⟩
      walk_at "w"
      refine ⟨x, _, _, rfl, rx, fun t H2 nt ht => ?_⟩
      obtain ⟨s2, g2⟩ := U.newF nt ht
      refine k _ _ (sH.trans s2) ?_
      unfold overV
      rw [if_neg h0]
      exact ⟨t, rfl, g2⟩
def spRef : Sp := fun vs H Q _ => ∃ h : Int, vs = [.int h] ∧ Sm h ∧ ∀ H', Same H H' → Q (.bl true) H'
theorem ok_law_refused (T : Top K mg A) : FnOk P w K mg base CX0 3 A.a_law_refused A.fd_law_refused ["high"] spRef := by
  refine T.F_law_refused.ok sc_law_refused (fun vs H Q E h => ?_) (fun cdv A' outer s H vs Q E hr h => ?_)
  · obtain ⟨h, rfl, _⟩ := h
    rfl
  · obtain ⟨h, rfl, sh, k⟩ := h
    refine ⟨_, (pss_cons (ps_try_only (tb := fun W => tDrop (tMakeA A.c_Ratio (spInit A.c_Ratio A.c_ByZero) (WE W) (tCons (tVar 0) (tCons (tC (.int 0)) tNil)))) (Wout := fun _ _ _ _ => False) rfl rfl ⟨rfl, by decide, Or.inl T.m_ByZero⟩ takes0 (fun W pn xe tk _ => (pss_one (ps_expr (by exact (pe_makeA T.mk_Ratio (ok_Ratio_init T) (hr.mono (by decide)) rfl T.m_Ratio T.b_Ratio_init (fun σ => passAt tk σ) (by exact (pa_cons (pv 0) (pa_cons pe_int pa_nil)))))))) (fun a oe cls d pn hz hf => (pss_one (ps_ret pe_bl))))
    (pss_one (ps_ret pe_bl))), ?_⟩
    walk_at "w"
    intro x dx hx hd hne
    refine ⟨x, dx, h, 0, rfl, upd_same, sh, by decide +kernel, .inr ⟨rfl, ?_⟩⟩
    refine ⟨true, T.te_ByZero, fun _ a na => ?_, fun q => nomatch q⟩
    walk_at "w"
    refine k _ fun b o e => ?_
    rw [upd_ne (ne_of_none e hx), upd_ne (ne_of_none e hd)]
    exact e
end
section
variable {P : Program} {w : World} {K : PySem.W.Frag} {mg : Str → Option Value} {base : Heap} {A : Ad}
/-- below 2 ^ 102 -/
abbrev Gw (i : Int) : Prop := -(5070602400912917605986812821504) < i ∧ i < 5070602400912917605986812821504
theorem gw_md {i : Int} (h : Gw i) : Md i := by
  have h1 : i.natAbs < 2 ^ 102 := by
    have e : (2 : Nat) ^ 102 = 5070602400912917605986812821504 := by decide
    rw [e]
    obtain ⟨a, b⟩ := h
    omega
  exact Nat.lt_trans h1 (Nat.pow_lt_pow_right (by decide) (by decide))
theorem gw_sm {i : Int} (h : Gw i) : Sm i := Nat.lt_trans (gw_md h) (Nat.pow_lt_pow_right (by decide) (by decide))
theorem md_top {h l : Int} (a : Md h) : Md (topOf h l) := Nat.lt_of_le_of_lt top_le a
theorem md_bot {h l : Int} (hl : l ≠ 0) (a : Md l) : Md (botOf h l) := Nat.lt_of_le_of_lt (bot_le hl) a
theorem neg_top {h l : Int} (hl : 0 < l) : topOf h l < 0 ↔ h < 0 := by
  have e := cross (h := h) (l := l) (by omega)
  have b := bot_pos h l
  have key : ∀ x y : Int, 0 < y → (x * y < 0 ↔ x < 0) := fun x y hy => by
    constructor
    · intro t
      rcases (by omega : x < 0 ∨ 0 ≤ x) with z | z
      · exact z
      · have := Int.mul_nonneg z (Int.le_of_lt hy)
        omega
    · intro t
      exact Int.mul_neg_of_neg_of_pos t hy
  rw [← key _ _ hl, e, key _ _ b]
/-- equal data of two integers -/
theorem eqv2 {x y z u : Int} : PyData.eqv (.tuple [.int x, .int y]) (.tuple [.int z, .int u]) = (decide (x = z) && decide (y = u)) := by
  show (x == z && (y == u && true)) = _
  rw [Bool.and_true]
  rfl
theorem ne2 {x y z u : Int} (e : x = z ∧ y = u) : (!PyData.eqv (.tuple [.int x, .int y]) (.tuple [.int z, .int u])) = false := by
  rw [eqv2, decide_eq_true e.1, decide_eq_true e.2]
  rfl
def dp2 {H : Hp} {t : Addr} {x y : Int} (h : H t = some (.tup [.int x, .int y])) : Dp K H (.ref t) (.tuple [.int x, .int y]) := .tup (SqT.of h) (.cons (.int _) (.cons (.int _) .nil))
theorem sh2 {x y : Int} : SeqAt.shaped (.tuple [.int x, .int y]) = true := rfl
theorem md2 {i j : Int} (hi : Gw i) (hj : Gw j) : (i * j).natAbs < 2 ^ 2000 := md_mul (gw_md hi) (gw_md hj)
theorem ownHy {C : Addr} {H : Hp} {v : V} {r s : Int} (rv : RepV C H v r s) : (∃ (b dy : Addr) (gs : List (Str × V)), v = .ref b ∧ H b = some (.ins C dy gs)) ∨ ∃ i, v = .int i := by
  rcases rv with ⟨b, e, dy, eb⟩ | ⟨e, _⟩
  · exact .inl ⟨b, dy, _, e, eb⟩
  · exact .inr ⟨_, e⟩
theorem tIf_merge {t : TT} {ta tb : TE} {σ : L2.St} {H : Hp} {Qf : VK} (S : V → Hp → Prop) (h : ∀ Q' : VK, (∀ y H2, S y H2 → Q' y H2) → tIf t ta tb σ H Q') (main : ∀ y H2, S y H2 → Qf y H2) : tIf t ta tb σ H Qf := h Qf main
theorem repTy (T : Top K mg A) {H : Hp} {v : V} {r s : Int} (rv : RepV A.c_Ratio H v r s) : ∃ tb, TyOf K H v tb ∧ PySem.W.notFirst K A.c_Ratio tb = true := by
  rcases rv with ⟨b, rfl, rb⟩ | ⟨rfl, _⟩
  · refine ⟨_, tyO T rb, ?_⟩
    unfold PySem.W.notFirst
    rw [beq_iff_eq.mpr rfl]
    rfl
  · exact ⟨_, .int _, T.nf_Ratio_int⟩
def spTwo (C : Addr) : Sp := fun vs H Q _ => ∃ (f s o : Addr) (v : V) (a b c d : Int), vs = [.ref f, .ref s, .ref o, v] ∧ H f = some (.tup [.int a, .int b]) ∧ H s = some (.tup [.int c, .int d]) ∧ b ≠ 0 ∧ d ≠ 0 ∧ Gw a ∧ Gw b ∧ Gw c ∧ Gw d ∧
  RtAt C H o (topOf a b) (botOf a b) ∧ RepV C H v (topOf c d) (botOf c d) ∧ ∀ H', Same H H' → Q (.bl true) H'
theorem ok_law_two_right (T : Top K mg A) : FnOk P w K mg base CX0 7 A.a_law_two_right A.fd_law_two_right ["first", "second", "one", "other"] (spTwo A.c_Ratio) := by
  refine T.F_law_two_right.ok sc_law_two_right (fun vs H Q E h => ?_) (fun cdv A' outer s H vs Q E hr h => ?_)
  · obtain ⟨f, s, o, v, a, b, c, d, rfl, _⟩ := h
    rfl
  · obtain ⟨f, s, o, v, a, b, c, d, rfl, hf, hs, hb, hd, ga, gb, gc, gd, ro, rv, k⟩ := h
    refine ⟨_, (pss_cons (ps_asg (pe_tup (pa_cons (pe_ix (U.uIx (K := K) rfl) (pv 0) pe_int (fun _ _ => rfl)) (pa_cons (pe_ix (U.uIx (K := K) rfl) (pv 0) pe_int (fun _ _ => rfl)) (pa_cons (pe_ix (U.uIx (K := K) rfl) (pv 1) pe_int (fun _ _ => rfl)) (pa_cons (pe_ix (U.uIx (K := K) rfl) (pv 1) pe_int (fun _ _ => rfl)) pa_nil))))) (pg_tup rfl (pgs_cons (pg_name (i := 4) sc_law_two_right.nd rfl (Or.inl rfl)) (pgs_cons (pg_name (i := 5) sc_law_two_right.nd rfl (Or.inl rfl)) (pgs_cons (pg_name (i := 6) sc_law_two_right.nd rfl (Or.inl rfl)) (pgs_cons (pg_name (i := 7) sc_law_two_right.nd rfl (Or.inl rfl)) pgs_nil))))))
    (pss_cons (ps_if (pt_cmpR (U.uNe (K := K) rfl hr.units) (pe_call (ok_law_told T) (hr.mono (by decide)) rfl T.m_law_told T.F_law_told.kp T.b_law_told .nil pass0 (pa_cons (pe_op (op_own2 T.sf_Ratio T.s_Ratio_add T.fn_Ratio_add T.r_Ratio_add T.hi_Ratio_add T.sub_Ratio (ok_Ratio_add T) (hr.mono (by decide)) T.b_Ratio_add pass0) (pv 2) (pv 3)) pa_nil)) (pe_call (ok_law_low T) (hr.mono (by decide)) rfl T.m_law_low T.F_law_low.kp T.b_law_low .nil pass0 (pa_cons (pe_op U.uAdd (pe_op op_mulW (pv 4) (pv 7)) (pe_op op_mulW (pv 6) (pv 5))) (pa_cons (pe_op op_mulW (pv 5) (pv 7)) pa_nil))) (nomark _)) (pss_one (ps_ret pe_bl)) pss_nil)
    (pss_cons (ps_if (pt_cmpR (U.uNe (K := K) rfl hr.units) (pe_call (ok_law_told T) (hr.mono (by decide)) rfl T.m_law_told T.F_law_told.kp T.b_law_told .nil pass0 (pa_cons (pe_op (op_own2 T.sf_Ratio T.s_Ratio_sub T.fn_Ratio_sub T.r_Ratio_sub T.hi_Ratio_sub T.sub_Ratio (ok_Ratio_sub T) (hr.mono (by decide)) T.b_Ratio_sub pass0) (pv 2) (pv 3)) pa_nil)) (pe_call (ok_law_low T) (hr.mono (by decide)) rfl T.m_law_low T.F_law_low.kp T.b_law_low .nil pass0 (pa_cons (pe_op op_sub (pe_op op_mulW (pv 4) (pv 7)) (pe_op op_mulW (pv 6) (pv 5))) (pa_cons (pe_op op_mulW (pv 5) (pv 7)) pa_nil))) (nomark _)) (pss_one (ps_ret pe_bl)) pss_nil)
    (pss_cons (ps_if (pt_cmpR (U.uNe (K := K) rfl hr.units) (pe_call (ok_law_told T) (hr.mono (by decide)) rfl T.m_law_told T.F_law_told.kp T.b_law_told .nil pass0 (pa_cons (pe_op (op_own2 T.sf_Ratio T.s_Ratio_mul T.fn_Ratio_mul T.r_Ratio_mul T.hi_Ratio_mul T.sub_Ratio (ok_Ratio_mul T) (hr.mono (by decide)) T.b_Ratio_mul pass0) (pv 2) (pv 3)) pa_nil)) (pe_call (ok_law_low T) (hr.mono (by decide)) rfl T.m_law_low T.F_law_low.kp T.b_law_low .nil pass0 (pa_cons (pe_op op_mulW (pv 4) (pv 6)) (pa_cons (pe_op op_mulW (pv 5) (pv 7)) pa_nil))) (nomark _)) (pss_one (ps_ret pe_bl)) pss_nil)
    (pss_cons (ps_if (pt_cmpR (U.uNe (K := K) rfl hr.units) (pe_call (ok_law_over T) (hr.mono (by decide)) rfl T.m_law_over T.F_law_over.kp T.b_law_over .nil pass0 (pa_cons (pv 2) (pa_cons (pv 3) pa_nil))) (pe_ifExp (pt_cmpR (U.uEq (K := K) rfl hr.units) (pv 6) pe_int (nomark _)) pe_non (pe_call (ok_law_low T) (hr.mono (by decide)) rfl T.m_law_low T.F_law_low.kp T.b_law_low .nil pass0 (pa_cons (pe_op op_mulW (pv 4) (pv 7)) (pa_cons (pe_op op_mulW (pv 5) (pv 6)) pa_nil)))) (nomark _)) (pss_one (ps_ret pe_bl)) pss_nil)
    (pss_cons (ps_set (i := 8) sc_law_two_right.nd rfl (Or.inl rfl) (pe_cmpR (U.uEq (K := K) rfl hr.units) (pe_call (ok_law_low T) (hr.mono (by decide)) rfl T.m_law_low T.F_law_low.kp T.b_law_low .nil pass0 (pa_cons (pv 4) (pa_cons (pv 5) pa_nil))) (pe_call (ok_law_low T) (hr.mono (by decide)) rfl T.m_law_low T.F_law_low.kp T.b_law_low .nil pass0 (pa_cons (pv 6) (pa_cons (pv 7) pa_nil))) (nomark _)))
    (pss_cons (ps_if (pt_cmpR (U.uNe (K := K) rfl hr.units) (pe_callB call_repr_bl (by rfl) T.n_repr (by decide +kernel) (pa_cons (pe_cmpR (op_ownEq (K := K) rfl T.s_Ratio_eq T.fn_Ratio_eq (ok_Ratio_eq T) (hr.mono (by decide)) T.b_Ratio_eq pass0) (pv 2) (pv 3) (nomark _)) pa_nil)) (pe_callB call_repr_bl (by rfl) T.n_repr (by decide +kernel) (pa_cons (pv 8) pa_nil)) (nomark _)) (pss_one (ps_ret pe_bl)) pss_nil)
    (pss_cons (ps_set (i := 9) sc_law_two_right.nd rfl (Or.inl rfl) (pe_cmpR U.uLt (pe_ix (U.uIx (K := K) rfl) (pe_call (ok_law_low T) (hr.mono (by decide)) rfl T.m_law_low T.F_law_low.kp T.b_law_low .nil pass0 (pa_cons (pe_op op_sub (pe_op op_mulW (pv 4) (pv 7)) (pe_op op_mulW (pv 6) (pv 5))) (pa_cons (pe_op op_mulW (pv 5) (pv 7)) pa_nil))) pe_int (fun _ _ => rfl)) pe_int (nomark _)))
    (pss_one (ps_ret (pe_and (pe_cmpR (U.uEq (K := K) rfl hr.units) (pe_callB call_repr_bl (by rfl) T.n_repr (by decide +kernel) (pa_cons (pe_meth (pv 2) T.cls_Ratio T.me_Ratio_below (ok_Ratio_below T) (hr.mono (by decide)) T.b_Ratio_below .nil pass0 (pa_cons (pv 3) pa_nil)) pa_nil)) (pe_callB call_repr_bl (by rfl) T.n_repr (by decide +kernel) (pa_cons (pv 9) pa_nil)) (nomark _)) (pe_one (pe_cmpR (U.uEq (K := K) rfl hr.units) (pe_call (ok_law_told T) (hr.mono (by decide)) rfl T.m_law_told T.F_law_told.kp T.b_law_told .nil pass0 (pa_cons (pv 2) pa_nil)) (pe_call (ok_law_low T) (hr.mono (by decide)) rfl T.m_law_low T.F_law_low.kp T.b_law_low .nil pass0 (pa_cons (pv 4) (pa_cons (pv 5) pa_nil))) (nomark _)))))))))))))), ?_⟩
    have e1 := cross (h := a) hb
    have e2 := cross (h := c) hd
    have qb := bot_pos a b
    have qd := bot_pos c d
    have mp : Md (topOf a b) := md_top (gw_md ga)
    have mq : Md (botOf a b) := md_bot hb (gw_md gb)
    have mr : Md (topOf c d) := md_top (gw_md gc)
    have ms : Md (botOf c d) := md_bot hd (gw_md gd)
    have hbd : b * d ≠ 0 := Int.mul_ne_zero hb hd
    walk_at "w"
    refine Or.inr (Or.inl ⟨f, _, 0, _, rfl, rfl, SqT.of hf, rfl, ?_⟩)
    walk_at "w"
    refine Or.inr (Or.inl ⟨f, _, 1, _, rfl, rfl, SqT.of hf, rfl, ?_⟩)
    walk_at "w"
    refine Or.inr (Or.inl ⟨s, _, 0, _, rfl, rfl, SqT.of hs, rfl, ?_⟩)
    walk_at "w"
    refine Or.inr (Or.inl ⟨s, _, 1, _, rfl, rfl, SqT.of hs, rfl, ?_⟩)
    walk_at "w"
    intro t0 nt0
    generalize hX : upd H t0 _ = H0
    obtain ⟨s0, g0⟩ := U.newF nt0 hX
    refine ⟨t0, _, rfl, SqT.of g0, rfl, ?_⟩
    walk_at "w"
    have S1 := s0
    have a1 : (topOf a b * botOf c d + topOf c d * botOf a b) * (b * d) = (a * d + c * b) * (botOf a b * botOf c d) := by grind
    have a2 : (topOf a b * botOf c d - topOf c d * botOf a b) * (b * d) = (a * d - c * b) * (botOf a b * botOf c d) := by grind
    have a3 : (topOf a b * topOf c d) * (b * d) = (a * c) * (botOf a b * botOf c d) := by grind
    have a4 : (topOf a b * botOf c d) * (b * c) = (a * d) * (botOf a b * topOf c d) := by grind
    -- add
    obtain ⟨dx1, er1⟩ := ro.same S1
    refine ⟨o, dx1, _, rfl, er1, ownHy (rv.same S1), o, v, _, _, _, _, rfl, ⟨dx1, er1⟩, rv.same S1, mp, mq, mr, ms, Int.mul_ne_zero (by omega) (by omega), fun x1 H1 nx1 s1 r1 => ?_⟩
    walk_at "w"
    refine ⟨x1, _, _, rfl, r1, fun t1 I1 nt1 ht1 => ?_⟩
    obtain ⟨u1, g1⟩ := U.newF nt1 ht1
    walk_at "w"
    refine ⟨cmM (gw_md ga) (gw_md gd), ?_⟩
    walk_at "w"
    refine ⟨cmM (gw_md gc) (gw_md gb), ?_⟩
    walk_at "w"
    refine ⟨cmM (gw_md gb) (gw_md gd), ?_⟩
    walk_at "w"
    refine ⟨(sm_add (md2 ga gd) (md2 gc gb)), sm_mul (gw_md gb) (gw_md gd), fun w1 J1 nw1 hw1 => ?_⟩
    obtain ⟨y1, z1⟩ := U.newF nw1 hw1
    walk_at "w"
    refine Or.inr ⟨_, _, dp2 (y1 _ _ g1), dp2 z1, sh2, sh2, ?_⟩
    walk_at "w"
    refine U.ifB false (ne2 (top_congr (Int.mul_ne_zero (by omega) (by omega)) hbd a1)) ?_
    have S2 := ((S1.trans s1).trans u1).trans y1
    walk_at "w"
    -- sub
    obtain ⟨dx2, er2⟩ := ro.same S2
    refine ⟨o, dx2, _, rfl, er2, ownHy (rv.same S2), o, v, _, _, _, _, rfl, ⟨dx2, er2⟩, rv.same S2, mp, mq, mr, ms, Int.mul_ne_zero (by omega) (by omega), fun x2 H2 nx2 s2 r2 => ?_⟩
    walk_at "w"
    refine ⟨x2, _, _, rfl, r2, fun t2 I2 nt2 ht2 => ?_⟩
    obtain ⟨u2, g2⟩ := U.newF nt2 ht2
    walk_at "w"
    refine ⟨cmM (gw_md ga) (gw_md gd), ?_⟩
    walk_at "w"
    refine ⟨cmM (gw_md gc) (gw_md gb), ?_⟩
    walk_at "w"
    refine ⟨cmM (gw_md gb) (gw_md gd), ?_⟩
    walk_at "w"
    refine ⟨(sm_sub (md2 ga gd) (md2 gc gb)), sm_mul (gw_md gb) (gw_md gd), fun w2 J2 nw2 hw2 => ?_⟩
    obtain ⟨y2, z2⟩ := U.newF nw2 hw2
    walk_at "w"
    refine Or.inr ⟨_, _, dp2 (y2 _ _ g2), dp2 z2, sh2, sh2, ?_⟩
    walk_at "w"
    refine U.ifB false (ne2 (top_congr (Int.mul_ne_zero (by omega) (by omega)) hbd a2)) ?_
    have S3 := ((S2.trans s2).trans u2).trans y2
    walk_at "w"
    -- mul
    obtain ⟨dx3, er3⟩ := ro.same S3
    refine ⟨o, dx3, _, rfl, er3, ownHy (rv.same S3), o, v, _, _, _, _, rfl, ⟨dx3, er3⟩, rv.same S3, mp, mq, mr, ms, Int.mul_ne_zero (by omega) (by omega), fun x3 H3 nx3 s3 r3 => ?_⟩
    walk_at "w"
    refine ⟨x3, _, _, rfl, r3, fun t3 I3 nt3 ht3 => ?_⟩
    obtain ⟨u3, g3⟩ := U.newF nt3 ht3
    walk_at "w"
    refine ⟨cmM (gw_md ga) (gw_md gc), ?_⟩
    walk_at "w"
    refine ⟨cmM (gw_md gb) (gw_md gd), ?_⟩
    walk_at "w"
    refine ⟨(sm_mul (gw_md ga) (gw_md gc)), sm_mul (gw_md gb) (gw_md gd), fun w3 J3 nw3 hw3 => ?_⟩
    obtain ⟨y3, z3⟩ := U.newF nw3 hw3
    walk_at "w"
    refine Or.inr ⟨_, _, dp2 (y3 _ _ g3), dp2 z3, sh2, sh2, ?_⟩
    walk_at "w"
    refine U.ifB false (ne2 (top_congr (Int.mul_ne_zero (by omega) (by omega)) hbd a3)) ?_
    have S4 := ((S3.trans s3).trans u3).trans y3
    walk_at "w"
    -- over
    refine ⟨o, v, _, _, _, _, rfl, ro.same S4, rv.same S4, mp, mq, mr, ms, fun u4 H4 s4 ov => ?_⟩
    have hr0 : topOf c d = 0 ↔ c = 0 := by
      constructor
      · intro z
        rw [z, Int.zero_mul] at e2
        rcases Int.mul_eq_zero.mp e2.symm with z | z
        · exact z
        · omega
      · intro z
        rw [z, Int.zero_mul] at e2
        rcases Int.mul_eq_zero.mp e2 with z | z
        · rw [← z, ‹c = 0›]
        · exact absurd z hd
    refine tIf_merge (fun y H2 => Same H4 H2 ∧ if c = 0 then y = .non else ∃ w, y = .ref w ∧ H2 w = some (.tup [.int (topOf (a * d) (b * c)), .int (botOf (a * d) (b * c))])) (fun Q' hQ => ?_) ?_
    · walk_at "w"
      refine U.ifDi (fun c0 => ?_) (fun c0 => ?_)
      · exact hQ _ _ ⟨Same.refl _, by rw [if_pos c0]⟩
      · walk_at "w"
        refine ⟨cmM (gw_md ga) (gw_md gd), ?_⟩
        walk_at "w"
        refine ⟨cmM (gw_md gb) (gw_md gc), ?_⟩
        walk_at "w"
        refine ⟨Int.mul_ne_zero hb c0, sm_mul (gw_md ga) (gw_md gd), sm_mul (gw_md gb) (gw_md gc), fun w H2 nw hw => ?_⟩
        obtain ⟨y, z⟩ := U.newF nw hw
        exact hQ _ _ ⟨y, by rw [if_neg c0]; exact ⟨w, rfl, z⟩⟩
    rintro y5 H5 ⟨s5, hy5⟩
    have S5 := (S4.trans s4).trans s5
    have ne5 : ∀ Q' : VK, Q' (.bl false) H5 → rNeU K u4 y5 H5 Q' := fun Q' q => by
      unfold overV at ov
      by_cases c0 : c = 0
      · rw [if_pos c0] at hy5
        rw [if_pos (by rw [hr0.mpr c0, Int.mul_zero])] at ov
        subst ov
        subst hy5
        exact Or.inl ⟨rfl, q⟩
      · rw [if_neg c0] at hy5
        have hq0 : ¬ botOf a b * topOf c d = 0 := Int.mul_ne_zero (by omega) (fun z => c0 (hr0.mp z))
        rw [if_neg hq0] at ov
        obtain ⟨t, rfl, gt⟩ := ov
        obtain ⟨w, rfl, gw⟩ := hy5
        refine Or.inr ⟨_, _, dp2 (s5 _ _ gt), dp2 gw, sh2, sh2, ?_⟩
        rw [ne2 (top_congr hq0 (Int.mul_ne_zero hb c0) a4)]
        exact q
    refine ne5 _ ?_
    walk_at "w"
    intro w6 H6 nw6 hw6
    obtain ⟨s6, z6⟩ := U.newF nw6 hw6
    walk_at "w"
    intro w7 H7 nw7 hw7
    obtain ⟨s7, z7⟩ := U.newF nw7 hw7
    refine Or.inr ⟨_, _, dp2 (s7 _ _ z6), dp2 z7, sh2, sh2, ?_⟩
    rw [eqv2]
    have S7 := (S5.trans s6).trans s7
    obtain ⟨dx7, er7⟩ := ro.same S7
    obtain ⟨tb, ty, hn⟩ := repTy T (rv.same S7)
    walk_at "w"
    refine ⟨o, dx7, _, tb, rfl, er7, ty, hn, o, v, _, _, rfl, ⟨dx7, er7⟩, .inl ⟨_, _, rv.same S7, ?_⟩⟩
    walk_at "w"
    refine U.ifB false (by simp) ?_
    walk_at "w"
    refine ⟨cmM (gw_md ga) (gw_md gd), ?_⟩
    walk_at "w"
    refine ⟨cmM (gw_md gc) (gw_md gb), ?_⟩
    walk_at "w"
    refine ⟨cmM (gw_md gb) (gw_md gd), ?_⟩
    walk_at "w"
    refine ⟨sm_sub (md2 ga gd) (md2 gc gb), sm_mul (gw_md gb) (gw_md gd), fun w8 H8 nw8 hw8 => ?_⟩
    obtain ⟨s8, z8⟩ := U.newF nw8 hw8
    walk_at "w"
    refine Or.inr (Or.inl ⟨w8, _, 0, _, rfl, rfl, SqT.of z8, rfl, ?_⟩)
    have hless : decide (topOf (a * d - c * b) (b * d) < 0) = decide (topOf a b * botOf c d < topOf c d * botOf a b) := by
      rw [← (top_congr (Int.mul_ne_zero (by omega) (by omega)) hbd a2).1]
      refine decide_eq_decide.mpr ?_
      rw [neg_top (Int.mul_pos qb qd)]
      omega
    walk_at "w"
    have S8 := S7.trans s8
    obtain ⟨dx8, er8⟩ := ro.same S8
    walk_at "w"
    refine ⟨o, dx8, _, rfl, er8, rfl, ?_⟩
    walk_at "w"
    refine ⟨o, v, _, _, _, _, rfl, ⟨dx8, er8⟩, rv.same S8, mp, mq, mr, ms, fun H9 s9 => ?_⟩
    walk_at "w"
    refine U.ifB true (by
      show decide (V.str (if decide (topOf a b * botOf c d < topOf c d * botOf a b) = true then ("True" : Str) else ("False" : Str)) = V.str (if decide (topOf (a * d - c * b) (b * d) < 0) = true then ("True" : Str) else ("False" : Str))) = true
      rw [hless]
      exact decide_eq_true rfl) ?_
    walk_at "w"
    have S9 := S8.trans s9
    refine ⟨o, _, _, rfl, ro.same S9, fun w10 H10 nw10 hw10 => ?_⟩
    obtain ⟨s10, z10⟩ := U.newF nw10 hw10
    walk_at "w"
    intro w11 H11 nw11 hw11
    obtain ⟨s11, z11⟩ := U.newF nw11 hw11
    refine Or.inr ⟨_, _, dp2 (s11 _ _ z10), dp2 z11, sh2, sh2, ?_⟩
    rw [eqv2, decide_eq_true rfl, decide_eq_true rfl]
    exact k _ ((S9.trans s10).trans s11)
end
section
variable {P : Program} {w : World} {K : PySem.W.Frag} {mg : Str → Option Value} {base : Heap} {A : Ad}
theorem bind1 (T : Top K mg A) : ∃ ds, Vals [V.int 1] ds ∧ Binds K A.fd_Ratio_init ["self", "top", "bottom"] ds :=
  T.F_Ratio_init.binds1 2 0 (by simp) rfl (fun _ _ _ _ _ _ _ us its h1 h2 => match us, its, h1, h2 with | [_, _], [_], _, _ => ⟨_, rfl, rfl⟩)
theorem bindK (T : Top K mg A) : ∃ its : List Value, KBn K A.fd_Ratio_init ["self", "top", "bottom"] 1 ["bottom", "top"] (fun us ws => us ++ ws.reverse) (fun vs zs => vs ++ zs.reverse) :=
  T.F_Ratio_init.kbindsD 1 ["bottom", "top"] (fun us _ ws => us ++ ws.reverse) (by simp) (fun r1 _ r3 => r1.append (vals_rev r3))
    (fun _ _ _ _ _ _ _ us its ws h1 h2 h3 => match us, its, ws, h1, h2, h3 with | [_], [_], [_, _], _, _, _ => ⟨_, rfl, rfl⟩)
/-- pairs of a high and a low number -/
def PairsAt (B : Int → Prop) (H : Hp) (ps : List Addr) : Prop := ∀ a ∈ ps, ∃ h l : Int, H a = some (.tup [.int h, .int l]) ∧ l ≠ 0 ∧ B h ∧ B l
def KeepT (H H' : Hp) : Prop := ∀ b xs, H b = some (.tup xs) → H' b = some (.tup xs)
theorem PairsAt.keep {B : Int → Prop} {H H' : Hp} {ps : List Addr} (p : PairsAt B H ps) (k : KeepT H H') : PairsAt B H' ps := fun a ha => by
  obtain ⟨h, l, e, r⟩ := p a ha
  exact ⟨h, l, k _ _ e, r⟩
theorem KeepT.same {H H' : Hp} (s : Same H H') : KeepT H H' := fun b xs e => s _ _ e
theorem box_get {H : Hp} {b : Addr} {n : Nat} (h : U.BoxAt H b n) : ∃ l, H b = some (.lst l) := by
  obtain ⟨b0, b1, b2, e, _⟩ := h
  exact ⟨_, e⟩
theorem KeepT.but {H H' : Hp} {b : Addr} {n : Nat} (s : U.SameBut b H H') (bx : U.BoxAt H b n) : KeepT H H' := fun c xs e => by
  refine s _ _ (fun q => ?_) e
  obtain ⟨l, e2⟩ := box_get bx
  rw [q, e2] at e
  cases e
theorem KeepT.upd {H : Hp} {D : Addr} {l : List V} {o : HO} (h : H D = some (.lst l)) : KeepT H (upd H D o) := fun c xs e => by
  rw [upd_ne (fun q => ?_)]
  · exact e
  · rw [q, h] at e
    cases e
theorem RtAt.but {C : Addr} {H H' : Hp} {a b : Addr} {p q : Int} {n : Nat} (r : RtAt C H a p q) (s : U.SameBut b H H') (bx : U.BoxAt H b n) : RtAt C H' a p q := by
  obtain ⟨dx, e⟩ := r
  refine ⟨dx, s _ _ (fun z => ?_) e⟩
  obtain ⟨l, e2⟩ := box_get bx
  rw [z, e2] at e
  cases e
structure Stt (B : Int → Prop) (H : Hp) (p L : Addr) (ps : List Addr) (Hn : Hp) (c : Nat) : Prop where
  sH : Same H Hn
  bx : U.BoxAt Hn p c
  gP : Hn L = some (.lst (ps.map V.ref))
  pa : PairsAt B Hn ps
section
variable {B : Int → Prop} {H Hn Hm : Hp} {p L : Addr} {ps : List Addr} {c c' : Nat}
theorem Stt.same (t : Stt B H p L ps Hn c) (s : Same Hn Hm) : Stt B H p L ps Hm c :=
  ⟨t.sH.trans s, t.bx.same s, s _ _ t.gP, t.pa.keep (.same s)⟩
theorem Stt.box (t : Stt B H p L ps Hn c) (np : H p = none) (ne : L ≠ p) (s : U.SameBut p Hn Hm) (b : U.BoxAt Hm p c') : Stt B H p L ps Hm c' :=
  ⟨U.Same.but t.sH s np, b, s _ _ ne t.gP, t.pa.keep (.but s t.bx)⟩
theorem Stt.push {q : Addr} {h l : Int} (t : Stt B H p L ps Hn c) (nL : H L = none) (ne : L ≠ p) (g : Hn q = some (.tup [.int h, .int l])) (hl : l ≠ 0) (bh : B h) (bl : B l) : Stt B H p L (ps ++ [q]) (upd Hn L (.lst (ps.map V.ref ++ [V.ref q]))) c := by
  have kt := KeepT.upd (o := .lst (ps.map V.ref ++ [V.ref q])) t.gP
  refine ⟨fun b o e => ?_, ?_, ?_, fun a ha => ?_⟩
  · rw [upd_ne (ne_of_none e nL)]
    exact t.sH _ _ e
  · obtain ⟨b0, b1, b2, e, r⟩ := t.bx
    exact ⟨b0, b1, b2, by rw [upd_ne (Ne.symm ne)]; exact e, r⟩
  · rw [upd_same, List.map_append]
    rfl
  · rcases List.mem_append.mp ha with ha | ha
    · exact (t.pa.keep kt) a ha
    · cases List.mem_singleton.mp ha
      exact ⟨h, l, kt _ _ g, hl, bh, bl⟩
theorem Stt.weak {B' : Int → Prop} (t : Stt B H p L ps Hn c) (w : ∀ i, B i → B' i) : Stt B' H p L ps Hn c :=
  ⟨t.sH, t.bx, t.gP, fun a ha => by
    obtain ⟨h, l, e, hl, b1, b2⟩ := t.pa a ha
    exact ⟨h, l, e, hl, w _ b1, w _ b2⟩⟩
end
theorem mkSame {H H' : Hp} {x dx : Addr} {o o' : HO} (hx : H x = none) (hd : H dx = none) (h : ∀ b, b ≠ x → H' b = upd (upd H dx o) x o' b) : Same H H' := fun b u e => by
  rw [h b (ne_of_none e hx), upd_ne (ne_of_none e hx), upd_ne (ne_of_none e hd)]
  exact e
theorem top1 {i : Int} : topOf i 1 = i := by
  rw [top_eq]
  simp
theorem bot1 {i : Int} : botOf i 1 = 1 := by
  rw [bot_eq (by decide)]
  simp
theorem fw_gw {i : Int} (h : Fw i) : Gw i := ⟨by have := h.1; omega, by have := h.2; omega⟩
def spLaw (K : PySem.W.Frag) : Sp := fun vs H Q _ => ∃ (a : Addr) (ns : List Int), vs = [.ref a] ∧ SqL K H a (ns.map V.int) ∧ ns.length ≤ 63 ∧ ∀ H', Q (.bl true) H'
theorem ok_law (T : Top K mg A) : FnOk P w K mg base CX0 8 A.a_law A.fd_law ["script"] (spLaw K) := by
  obtain ⟨ds1, v1_Ratio_init, b1_Ratio_init⟩ := bind1 T
  obtain ⟨its1, kb_Ratio_init⟩ := bindK T
  refine T.F_law.ok sc_law (fun vs H Q E h => ?_) (fun cdv A' outer s H vs Q E hr h => ?_)
  · obtain ⟨a, ns, rfl, _⟩ := h
    rfl
  · obtain ⟨a, ns, rfl, hS, hlen, k⟩ := h
    refine ⟨_, (pss_cons (ps_for PassesOwn.never rfl (pi_range1 (by rfl) T.n_range (pa_cons (pe_callB (call_max2 rfl) (by rfl) T.n_max (by decide +kernel) (pa_cons pe_int (pa_cons (pe_callB (call_min2 rfl) (by rfl) T.n_min (by decide +kernel) (pa_cons pe_int (pa_cons (pe_callB (U.uLen (K := K) rfl) (by rfl) T.n_len (by decide +kernel) (pa_cons (pv 0) pa_nil)) pa_nil))) pa_nil))) pa_nil)) (pg_name (i := 1) sc_law.nd rfl (Or.inl rfl)) (pss_cons (ps_set (i := 2) sc_law.nd rfl (Or.inr rfl) (pe_call (ok_law_box T) (hr.mono (by decide)) rfl T.m_law_box T.F_law_box.kp T.b_law_box .nil pass0 (pa_cons (pe_call (ok_law_cell T) (hr.mono (by decide)) rfl T.m_law_cell T.F_law_cell.kp T.b_law_cell .nil pass0 (pa_cons (pv 0) (pa_cons (pv 1) pa_nil))) pa_nil)))
    (pss_cons (ps_setLc (i := 3) (own := [("turn", 9)]) rfl sc_law.nd rfl rfl (sw_true rfl rfl rfl (by decide +kernel)) (pi_range1 (by rfl) T.n_range (pa_cons pe_int pa_nil)) (blkOk_by (own := [("turn", 9)]) (N := nm_law) (sc := defScope s_law) (by decide +kernel)) (fun _ _ _ _ _ => (pg_name (i := 9) sc_law.nd rfl (Or.inl rfl))) (fun _ _ _ _ _ => pts_nil) (fun _ _ _ _ _ => (pe_call (ok_law_pair T) (hr.mono (by decide)) rfl T.m_law_pair T.F_law_pair.kp T.b_law_pair .nil pass0 (pa_cons (pv 2) pa_nil))))
    (pss_cons (ps_expr (pe_bm PySem.F.plainAttrs_list PySem.F.slot_list_append PySem.F.type_list_append mt_append (pv 3) (pa_cons (pe_tup (pa_cons (pe_op U.uMul (pe_ix (U.uIx (K := K) rfl) (pe_ix (U.uIx (K := K) rfl) (pv 3) pe_int (fun _ _ => rfl)) pe_int (fun _ _ => rfl)) pe_int) (pa_cons (pe_op U.uMul (pe_ix (U.uIx (K := K) rfl) (pe_ix (U.uIx (K := K) rfl) (pv 3) pe_int (fun _ _ => rfl)) pe_int (fun _ _ => rfl)) pe_int) pa_nil))) pa_nil)))
    (pss_cons (ps_for PassesOwn.never rfl (pi_range1 (by rfl) T.n_range (pa_cons pe_int pa_nil)) (pg_name (i := 9) sc_law.nd rfl (Or.inl rfl)) (pss_cons (ps_par (i := 4) (j := 5) rfl sc_law.nd rfl rfl (by decide) rfl rfl (pa_cons (pe_ix (U.uIx (K := K) rfl) (pv 3) (pe_call (ok_law_take T) (hr.mono (by decide)) rfl T.m_law_take T.F_law_take.kp T.b_law_take .nil pass0 (pa_cons (pv 2) (pa_cons pe_int pa_nil))) (fun _ _ => rfl)) (pa_cons (pe_ix (U.uIx (K := K) rfl) (pv 3) (pe_call (ok_law_take T) (hr.mono (by decide)) rfl T.m_law_take T.F_law_take.kp T.b_law_take .nil pass0 (pa_cons (pv 2) (pa_cons pe_int pa_nil))) (fun _ _ => rfl)) pa_nil)) rfl)
    (pss_cons (ps_par (i := 6) (j := 7) rfl sc_law.nd rfl rfl (by decide) rfl rfl (pa_cons (pe_make T.mk_Ratio (ok_Ratio_init T) (hr.mono (by decide)) rfl T.m_Ratio T.b_Ratio_init .nil passL (pa_cons (pe_ix (U.uIx (K := K) rfl) (pv 4) pe_int (fun _ _ => rfl)) (pa_cons (pe_ix (U.uIx (K := K) rfl) (pv 4) pe_int (fun _ _ => rfl)) pa_nil))) (pa_cons (pe_makeK0 T.mk_Ratio (ok_Ratio_init T) (hr.mono (by decide)) rfl T.m_Ratio kb_Ratio_init passL (pk_cons (pe_ix (U.uIx (K := K) rfl) (pv 5) pe_int (fun _ _ => rfl)) (pk_cons (pe_ix (U.uIx (K := K) rfl) (pv 5) pe_int (fun _ _ => rfl)) pk_nil))) pa_nil)) rfl)
    (pss_cons (ps_if (pt_cmpR (U.uNe (K := K) rfl hr.units) (pe_meth0 (pv 6) T.cls_Ratio T.me_Ratio_written (ok_Ratio_written T) (hr.mono (by decide)) T.b_Ratio_written .nil pass0) (pe_call (ok_law_text T) (hr.mono (by decide)) rfl T.m_law_text T.F_law_text.kp T.b_law_text .nil pass0 (pa_cons (pe_call (ok_law_low T) (hr.mono (by decide)) rfl T.m_law_low T.F_law_low.kp T.b_law_low .nil pass0 (pa_cons (pe_ix (U.uIx (K := K) rfl) (pv 4) pe_int (fun _ _ => rfl)) (pa_cons (pe_ix (U.uIx (K := K) rfl) (pv 4) pe_int (fun _ _ => rfl)) pa_nil))) pa_nil)) (nomark _)) (pss_one (ps_ret pe_bl)) pss_nil)
    (pss_cons (ps_if (pt_not (pt_val (pe_call (ok_law_two_right T) (hr.mono (by decide)) rfl T.m_law_two_right T.F_law_two_right.kp T.b_law_two_right .nil pass0 (pa_cons (pv 4) (pa_cons (pv 5) (pa_cons (pv 6) (pa_cons (pv 7) pa_nil))))))) (pss_one (ps_ret pe_bl)) pss_nil)
    (pss_cons (ps_set (i := 8) sc_law.nd rfl (Or.inl rfl) (pe_call (ok_law_number T) (hr.mono (by decide)) rfl T.m_law_number T.F_law_number.kp T.b_law_number .nil pass0 (pa_cons (pv 2) pa_nil)))
    (pss_one (ps_if (PW.pt (pw_or (pt_not (pt_val (pe_call (ok_law_two_right T) (hr.mono (by decide)) rfl T.m_law_two_right T.F_law_two_right.kp T.b_law_two_right .nil pass0 (pa_cons (pv 4) (pa_cons (pe_tup (pa_cons (pv 8) (pa_cons pe_int pa_nil))) (pa_cons (pv 6) (pa_cons (pv 8) pa_nil))))))) (pw_or1 (pt_cmpR (U.uNe (K := K) rfl hr.units) (pe_call (ok_law_told T) (hr.mono (by decide)) rfl T.m_law_told T.F_law_told.kp T.b_law_told .nil pass0 (pa_cons (pe_make T.mk_Ratio (ok_Ratio_init T) (hr.mono (by decide)) rfl T.m_Ratio b1_Ratio_init v1_Ratio_init passL (pa_cons (pv 8) pa_nil)) pa_nil)) (pe_tup (pa_cons (pv 8) (pa_cons pe_int pa_nil))) (nomark _))))) (pss_one (ps_ret pe_bl)) pss_nil))))))))
    (pss_cons (ps_if (pt_not (pt_val (pe_call (ok_law_refused T) (hr.mono (by decide)) rfl T.m_law_refused T.F_law_refused.kp T.b_law_refused .nil pass0 (pa_cons (pe_call (ok_law_number T) (hr.mono (by decide)) rfl T.m_law_number T.F_law_number.kp T.b_law_number .nil pass0 (pa_cons (pv 2) pa_nil)) pa_nil)))) (pss_one (ps_ret pe_bl)) pss_nil)
    (pss_cons (ps_if (PW.pt (pw_or (pt_cmpR (op_ownEq (K := K) rfl T.s_Ratio_eq T.fn_Ratio_eq (ok_Ratio_eq T) (hr.mono (by decide)) T.b_Ratio_eq pass0) (pe_make T.mk_Ratio (ok_Ratio_init T) (hr.mono (by decide)) rfl T.m_Ratio b1_Ratio_init v1_Ratio_init passL (pa_cons pe_int pa_nil)) pe_int (nomark _)) (pw_or (pt_cmpR (op_ownEq (K := K) rfl T.s_Ratio_eq T.fn_Ratio_eq (ok_Ratio_eq T) (hr.mono (by decide)) T.b_Ratio_eq pass0) (pe_make T.mk_Ratio (ok_Ratio_init T) (hr.mono (by decide)) rfl T.m_Ratio T.b_Ratio_init .nil passL (pa_cons pe_int (pa_cons pe_int pa_nil))) pe_int (nomark _)) (pw_or1 (pt_not (pt_cmpR (op_ownEq (K := K) rfl T.s_Ratio_eq T.fn_Ratio_eq (ok_Ratio_eq T) (hr.mono (by decide)) T.b_Ratio_eq pass0) (pe_make T.mk_Ratio (ok_Ratio_init T) (hr.mono (by decide)) rfl T.m_Ratio T.b_Ratio_init .nil passL (pa_cons pe_int (pa_cons pe_int pa_nil))) pe_int (nomark _))))))) (pss_one (ps_ret pe_bl)) pss_nil)
    (pss_one (ps_if (pt_cmpR (U.uNe (K := K) rfl hr.units) (pe_lc (own := [("odd", 10)]) rfl sc_law.nd (pi_list (pe_lst (pa_cons pe_bl (pa_cons pe_non (pa_cons pe_str (pa_cons (pe_tup (pa_cons pe_int (pa_cons pe_int pa_nil))) (pa_cons (pe_lst (pa_cons pe_int pa_nil)) (pa_cons pe_dnewK pa_nil)))))))) (blkOk_by (own := [("odd", 10)]) (N := nm_law) (sc := defScope s_law) (by decide +kernel)) (fun _ _ _ _ _ => (pg_name (i := 10) sc_law.nd rfl (Or.inl rfl))) (fun _ _ _ _ _ => pts_one (pt_cmpR (op_ownEq (K := K) rfl T.s_Ratio_eq T.fn_Ratio_eq (ok_Ratio_eq T) (hr.mono (by decide)) T.b_Ratio_eq pass0) (pe_make T.mk_Ratio (ok_Ratio_init T) (hr.mono (by decide)) rfl T.m_Ratio b1_Ratio_init v1_Ratio_init passL (pa_cons pe_int pa_nil)) (pv 10) (nomark _))) (fun _ _ _ _ _ => (pv 10))) (pe_lst pa_nil) (nomark _)) (pss_one (ps_ret pe_bl)) pss_nil)))))))))
    (pss_one (ps_ret pe_bl))), ?_⟩
    walk_at "w"
    refine U.forR (fun i σ H' => ∃ v1 v2 v3 v4 v5 v6 v7 v8 v9 v10 : Option V, σ = [some (.ref a), v1, v2, v3, v4, v5, v6, v7, v8, v9, v10] ∧ Same H H') ⟨_, _, _, _, _, _, _, _, _, _, rfl, Same.refl _⟩ ?_ ?_
    · rintro i σ H' hi ⟨v1, v2, v3, v4, v5, v6, v7, v8, v9, v10, rfl, sH⟩
      have hi : i < 100 := by
        refine Nat.lt_of_lt_of_le hi ?_
        rw [List.length_map]
        split <;> split <;> omega
      walk_at "w"
      refine ⟨a, ns, (i : Int), rfl, sH.seq hS, hlen, by omega, by omega, fun c H1 s1 => ?_⟩
      walk_at "w"
      intro p H2 np bx s2
      have np : H p = none := (sH.trans s1).free np
      have sH := (sH.trans s1).trans s2
      walk_at "w"
      intro D nD
      have nDp : D ≠ p := fun q => by
        obtain ⟨l, e⟩ := box_get bx
        rw [q, e] at nD
        cases nD
      have nDH : H D = none := sH.free nD
      refine lc_range (fun j Hj => ∃ ps : List Addr, ps.length = j ∧ Stt Fw H p D ps Hj (6 * j)) ⟨[], rfl, sH.trans (U.same_new nD), bx.same (U.same_new nD), upd_same, fun _ h => by cases h⟩ ?_ ?_
      · clear bx s2 sH s1
        rintro j Hj hj ⟨ps, hl, st⟩
        walk_at "w"
        refine ⟨rfl, ?_⟩
        walk_at "w"
        refine ⟨p, 6 * j, rfl, st.bx, by omega, fun h l q H5 fh fl hl0 nq gq bx5 s5 => ?_⟩
        have st5 := st.box np nDp s5 bx5
        exact ⟨_, st5.gP, U.szl (by rw [List.length_map]; omega), ps ++ [q], by rw [List.length_append]; exact congrArg (· + 1) hl, by
          rw [show 6 * (j + 1) = 6 * j + 6 by omega]
          exact st5.push nDH nDp gq hl0 fh fl⟩
      · rintro Hj ⟨ps, hl, st⟩
        obtain ⟨p0, p1, p2, p3, rfl⟩ : ∃ p0 p1 p2 p3, ps = [p0, p1, p2, p3] := match ps, hl with | [x, y, z, u], _ => ⟨x, y, z, u, rfl⟩
        obtain ⟨h0, l0, e0, hl0, fh0, fl0⟩ := st.pa p0 (by simp)
        clear bx s2 sH s1
        walk_at "w"
        refine ⟨Or.inl ⟨rfl, _, SqL.of st.gP⟩, ?_⟩
        walk_at "w"
        refine Or.inl ⟨D, _, 0, _, rfl, rfl, SqL.of st.gP, rfl, ?_⟩
        walk_at "w"
        refine Or.inr (Or.inl ⟨p0, _, 0, _, rfl, rfl, SqT.of e0, rfl, ?_⟩)
        walk_at "w"
        refine Or.inl ⟨D, _, 0, _, rfl, rfl, SqL.of st.gP, rfl, ?_⟩
        walk_at "w"
        refine Or.inr (Or.inl ⟨p0, _, 1, _, rfl, rfl, SqT.of e0, rfl, ?_⟩)
        walk_at "w"
        intro q nq
        generalize hX : upd Hj q _ = H4
        obtain ⟨s4, g4⟩ := U.newF nq hX
        walk_at "w"
        have st4 := (((st.same s4).weak (fun _ z => fw_gw z)).push nDH nDp g4 (by omega) ⟨by have := fh0.1; omega, by have := fh0.2; omega⟩ ⟨by have := fl0.1; omega, by have := fl0.2; omega⟩)
        refine ⟨D, _, _, rfl, rfl, (st.same s4).gP, U.szl (by show 4 < 100000; decide), ?_⟩
        generalize hps : [p0, p1, p2, p3] ++ [q] = ps at st4
        have hl5 : ps.length = 5 := by
          rw [← hps]
          rfl
        have e4 : upd H4 D (.lst (List.map V.ref [p0, p1, p2, p3] ++ [V.ref q])) = upd H4 D (.lst (List.map V.ref [p0, p1, p2, p3] ++ [V.ref q])) := rfl
        generalize upd H4 D (.lst (List.map V.ref [p0, p1, p2, p3] ++ [V.ref q])) = H5 at st4 e4
        rw [e4]
        clear e4 hps g4 s4 hX nq e0 hl0 fh0 fl0 st
        walk_at "w"
        refine U.forR (fun j σ H' => ∃ v4 v5 v6 v7 v8 v9 v10 : Option V, σ = [some (.ref a), some (.int (i : Int)), some (.ref p), some (.ref D), v4, v5, v6, v7, v8, v9, v10] ∧ Stt Gw H p D ps H' (24 + 6 * j)) ⟨_, _, _, _, _, _, _, rfl, st4⟩ ?_ ?_
        · clear st4
          rintro j σ H6 hj ⟨v4, v5, v6, v7, v8, v9, v10, rfl, st⟩
          have hj : j < 5 := hj
          walk_at "w"
          refine ⟨p, _, _, rfl, st.bx, by omega, by decide, by decide, fun d1 H7 d10 d11 bx7 s7 => ?_⟩
          have st := st.box np nDp s7 bx7
          obtain ⟨f1, hf1⟩ : ∃ f1, ps[d1.toNat]? = some f1 := ⟨_, List.getElem?_eq_getElem (by omega)⟩
          refine Or.inl ⟨D, _, d1, .ref f1, rfl, rfl, SqL.of st.gP, U.atN d1.toNat (by omega) (by rw [List.getElem?_map, hf1] <;> rfl), ?_⟩
          walk_at "w"
          refine ⟨p, _, _, rfl, st.bx, by omega, by decide, by decide, fun d2 H8 d20 d21 bx8 s8 => ?_⟩
          have st := st.box np nDp s8 bx8
          obtain ⟨f2, hf2⟩ : ∃ f2, ps[d2.toNat]? = some f2 := ⟨_, List.getElem?_eq_getElem (by omega)⟩
          refine Or.inl ⟨D, _, d2, .ref f2, rfl, rfl, SqL.of st.gP, U.atN d2.toNat (by omega) (by rw [List.getElem?_map, hf2] <;> rfl), ?_⟩
          obtain ⟨xa, xb, ga, hb, ba, bb⟩ := st.pa f1 (List.mem_of_getElem? hf1)
          obtain ⟨xc, xd, gc, hd, bc, bd⟩ := st.pa f2 (List.mem_of_getElem? hf2)
          clear bx7 bx8 s7 s8
          walk_at "w"
          refine Or.inr (Or.inl ⟨f1, _, 0, _, rfl, rfl, SqT.of ga, rfl, ?_⟩)
          walk_at "w"
          refine Or.inr (Or.inl ⟨f1, _, 1, _, rfl, rfl, SqT.of ga, rfl, ?_⟩)
          walk_at "w"
          intro o1 dx1 no1 nd1 _
          refine ⟨o1, dx1, xa, xb, rfl, upd_same, gw_sm ba, gw_sm bb, .inl ⟨hb, fun H9 h9 r1 => ⟨rfl, ?_⟩⟩⟩
          have s9 := mkSame no1 nd1 h9
          have st := st.same s9
          walk_at "w"
          refine Or.inr (Or.inl ⟨f2, _, 1, _, rfl, rfl, SqT.of (s9 _ _ gc), rfl, ?_⟩)
          walk_at "w"
          refine Or.inr (Or.inl ⟨f2, _, 0, _, rfl, rfl, SqT.of (s9 _ _ gc), rfl, ?_⟩)
          walk_at "w"
          refine ⟨rfl, ?_⟩
          intro o2 dx2 no2 nd2 _
          refine ⟨o2, dx2, xc, xd, rfl, upd_same, gw_sm bc, gw_sm bd, .inl ⟨hd, fun H10 h10 r2 => ⟨rfl, ?_⟩⟩⟩
          have s10 := mkSame no2 nd2 h10
          have st := st.same s10
          have r1 := r1.same s10
          have ga := (s9.trans s10) _ _ ga
          have gc := (s9.trans s10) _ _ gc
          obtain ⟨dx1', er1⟩ := r1
          clear h9 h10 s9 s10 no1 nd1 no2 nd2
          walk_at "w"
          refine ⟨o1, dx1', _, rfl, er1, rfl, ?_⟩
          walk_at "w"
          refine ⟨o1, _, _, rfl, ⟨dx1', er1⟩, md_top (gw_md ba), md_bot hb (gw_md bb), ?_⟩
          walk_at "w"
          refine Or.inr (Or.inl ⟨f1, _, 0, _, rfl, rfl, SqT.of ga, rfl, ?_⟩)
          walk_at "w"
          refine Or.inr (Or.inl ⟨f1, _, 1, _, rfl, rfl, SqT.of ga, rfl, ?_⟩)
          walk_at "w"
          intro w1 H11 nw1 hw1
          obtain ⟨s11, z11⟩ := U.newF nw1 hw1
          have st := st.same s11
          have ga := s11 _ _ ga
          have gc := s11 _ _ gc
          have er1 := s11 _ _ er1
          have r2 := r2.same s11
          walk_at "w"
          refine ⟨w1, _, _, rfl, z11, md_top (gw_md ba), md_bot hb (gw_md bb), ?_⟩
          walk_at "w"
          refine U.ifB false (by simp) ?_
          walk_at "w"
          refine ⟨f1, f2, o1, _, xa, xb, xc, xd, rfl, ga, gc, hb, hd, ba, bb, bc, bd, ⟨dx1', er1⟩, .inl ⟨o2, rfl, r2⟩, fun H12 s12 => ?_⟩
          have st := st.same s12
          have ga := s12 _ _ ga
          have er1 := s12 _ _ er1
          clear z11 hw1 nw1
          walk_at "w"
          refine ⟨p, _, rfl, st.bx, by omega, fun wh H13 fw bx13 s13 => ?_⟩
          have ga := KeepT.but s13 st.bx _ _ ga
          obtain ⟨dx2, er2⟩ := RtAt.but ⟨dx1', er1⟩ s13 st.bx
          have st := st.box np nDp s13 bx13
          walk_at "w"
          intro t1 nt1
          generalize hY : upd H13 t1 _ = H14
          obtain ⟨s14, g14⟩ := U.newF nt1 hY
          have ga := s14 _ _ ga
          have er2 := s14 _ _ er2
          have st := st.same s14
          walk_at "w"
          refine ⟨f1, t1, o1, _, xa, xb, wh, 1, rfl, ga, g14, hb, by decide, ba, bb, fw_gw fw, by decide, ⟨dx2, er2⟩, .inr ⟨by rw [top1], bot1⟩, fun H15 s15 => ?_⟩
          have st := st.same s15
          walk_at "w"
          intro o3 dx3 no3 nd3 _
          refine ⟨o3, dx3, wh, 1, rfl, upd_same, gw_sm (fw_gw fw), by decide +kernel, .inl ⟨by decide, fun H16 h16 r3 => ⟨rfl, ?_⟩⟩⟩
          have s16 := mkSame no3 nd3 h16
          have st := st.same s16
          walk_at "w"
          refine ⟨o3, _, _, rfl, r3, fun w2 H17 nw2 hw2 => ?_⟩
          obtain ⟨s17, z17⟩ := U.newF nw2 hw2
          have st := st.same s17
          walk_at "w"
          intro t2 nt2
          generalize hZ : upd H17 t2 _ = H18
          obtain ⟨s18, g18⟩ := U.newF nt2 hZ
          have st := st.same s18
          refine Or.inr ⟨_, _, dp2 (s18 _ _ z17), dp2 g18, sh2, sh2, ?_⟩
          walk_at "w"
          refine U.ifB false (ne2 ⟨top1, bot1⟩) ?_
          exact ⟨_, _, _, _, _, _, _, rfl, st.sH, st.bx.mono (by omega), st.gP, st.pa⟩
        · rintro σ H6 ⟨v4, v5, v6, v7, v8, v9, v10, rfl, st⟩
          walk_at "w"
          refine ⟨p, _, rfl, st.bx, by omega, fun w H7 fw bx7 s7 => ?_⟩
          have st := st.box np nDp s7 bx7
          walk_at "w"
          intro H8 s8
          have st := st.same s8
          walk_at "w"
          refine U.ifB false rfl ?_
          walk_at "w"
          intro o1 dx1 no1 nd1 _
          refine ⟨o1, dx1, 1, 1, rfl, upd_same, by decide +kernel, by decide +kernel, .inl ⟨by decide, fun H9 h9 r1 => ⟨rfl, ?_⟩⟩⟩
          have st := st.same (mkSame no1 nd1 h9)
          obtain ⟨dx1', er1⟩ := r1
          refine ⟨o1, dx1', _, .type "int", rfl, er1, .int 2, T.nf_Ratio_int, o1, .int 2, _, _, rfl, ⟨dx1', er1⟩, .inl ⟨2, 1, .inr ⟨rfl, rfl⟩, ?_⟩⟩
          walk_at "w"
          refine U.ifB false (by rw [top1, bot1] <;> rfl) ?_
          intro o2 dx2 no2 nd2 _
          refine ⟨o2, dx2, 1, 2, rfl, upd_same, by decide +kernel, by decide +kernel, .inl ⟨by decide, fun H10 h10 r2 => ⟨rfl, ?_⟩⟩⟩
          have st := st.same (mkSame no2 nd2 h10)
          obtain ⟨dx2', er2⟩ := r2
          refine ⟨o2, dx2', _, .type "int", rfl, er2, .int 1, T.nf_Ratio_int, o2, .int 1, _, _, rfl, ⟨dx2', er2⟩, .inl ⟨1, 1, .inr ⟨rfl, rfl⟩, ?_⟩⟩
          walk_at "w"
          refine U.ifB false (by decide +kernel) ?_
          intro o3 dx3 no3 nd3 _
          refine ⟨o3, dx3, 2, 2, rfl, upd_same, by decide +kernel, by decide +kernel, .inl ⟨by decide, fun H11 h11 r3 => ⟨rfl, ?_⟩⟩⟩
          have st := st.same (mkSame no3 nd3 h11)
          obtain ⟨dx3', er3⟩ := r3
          refine ⟨o3, dx3', _, .type "int", rfl, er3, .int 1, T.nf_Ratio_int, o3, .int 1, _, _, rfl, ⟨dx3', er3⟩, .inl ⟨1, 1, .inr ⟨rfl, rfl⟩, ?_⟩⟩
          walk_at "w"
          clear h9 h10 h11 no1 no2 no3 nd1 nd2 nd3 er1 er2 er3
          intro t1 nt1
          generalize hX1 : upd H11 t1 _ = H12
          obtain ⟨s12, g12⟩ := U.newF nt1 hX1
          walk_at "w"
          intro t2 nt2
          generalize hX2 : upd H12 t2 _ = H13
          obtain ⟨s13, g13⟩ := U.newF nt2 hX2
          walk_at "w"
          intro t3 nt3
          generalize hX3 : upd H13 t3 _ = H14
          obtain ⟨s14, g14⟩ := U.newF nt3 hX3
          walk_at "w"
          intro L nL
          generalize hX4 : upd H14 L _ = H15
          obtain ⟨s15, g15⟩ := U.newF nL hX4
          refine ⟨L, rfl, ⟨_, SqL.of g15⟩, ?_⟩
          have g12 := ((s13.trans s14).trans s15) _ _ g12
          have g13 := (s14.trans s15) _ _ g13
          have g14 := s15 _ _ g14
          have stF := ((((st.same s12).same s13).same s14).same s15).sH
          clear hX1 hX2 hX3 hX4 s12 s13 s14 s15 nt1 nt2 nt3 nL st
          intro D2 nD2
          refine lc_list (xs := _) (fun _ Hj => Same H15 Hj ∧ Hj D2 = some (.lst [])) ⟨U.same_new nD2, upd_same⟩ (fun _ Hj _ st => SqL.of (st.1 _ _ g15)) ?_ ?_
          · rintro j x Hj hx ⟨sj, gD⟩
            have odd : ∀ Hz, Same H15 Hz → Odd K A.c_Ratio Hz x := fun Hz sz => by
              rcases j with _ | _ | _ | _ | _ | _ | j
              · obtain rfl := Option.some.inj hx
                exact ⟨"bool", .bl _, T.ki_Ratio_bool, T.nf_Ratio_bool, .inl rfl⟩
              · obtain rfl := Option.some.inj hx
                exact ⟨"NoneType", .non, T.ki_Ratio_NoneType, T.nf_Ratio_NoneType, .inr (by decide +kernel)⟩
              · obtain rfl := Option.some.inj hx
                exact ⟨"str", .str _, T.ki_Ratio_str, T.nf_Ratio_str, .inr (by decide +kernel)⟩
              · obtain rfl := Option.some.inj hx
                exact ⟨"tuple", .tup (sz _ _ g12), T.ki_Ratio_tuple, T.nf_Ratio_tuple, .inr (by decide +kernel)⟩
              · obtain rfl := Option.some.inj hx
                exact ⟨"list", .lst (sz _ _ g13), T.ki_Ratio_list, T.nf_Ratio_list, .inr (by decide +kernel)⟩
              · obtain rfl := Option.some.inj hx
                exact ⟨"dict", .dK (sz _ _ g14), T.ki_Ratio_dict, T.nf_Ratio_dict, .inr (by decide +kernel)⟩
              · cases hx
            refine ⟨rfl, ?_⟩
            intro o1 dx1 no1 nd1 _
            refine ⟨o1, dx1, 1, 1, rfl, upd_same, by decide +kernel, by decide +kernel, .inl ⟨by decide, fun H9 h9 r1 => ⟨rfl, ?_⟩⟩⟩
            have s9 := mkSame no1 nd1 h9
            obtain ⟨dx1', er1⟩ := r1
            obtain ⟨Ty, ty, k1, k2, k3⟩ := odd H9 (sj.trans s9)
            refine ⟨x, rfl, ?_⟩
            refine ⟨o1, dx1', _, .type Ty, rfl, er1, ty, k2, o1, x, _, _, rfl, ⟨dx1', er1⟩, .inr ⟨⟨Ty, ty, k1, k2, k3⟩, ?_⟩⟩
            refine ⟨false, rfl, ?_⟩
            exact ⟨sj.trans s9, s9 _ _ gD⟩
          · rintro Hj ⟨sj, gD⟩
            walk_at "w"
            intro q nq
            generalize hX : upd Hj q _ = H16
            obtain ⟨s16, g16⟩ := U.newF nq hX
            refine Or.inr ⟨.list [], .list [], .lst (SqL.of (s16 _ _ gD)) .nil, .lst (SqL.of g16) .nil, rfl, rfl, ?_⟩
            refine ⟨false, rfl, ?_⟩
            exact ⟨_, _, _, _, _, _, _, _, _, _, rfl, (stF.trans sj).trans s16⟩
    · rintro σ H' ⟨v1, v2, v3, v4, v5, v6, v7, v8, v9, v10, rfl, sH⟩
      exact k _
end
set_option maxHeartbeats 8000000 in
theorem all_mk {l : PySem.W.OpenLaw} {w : World} {K : PySem.W.Frag} {h : Heap} {mg : Str → Option Value} {fa : Addr} (X : K.In h) (G : h.Ns mainGlobals mg) (hfa : mg "law" = some (.ref fa))
    {od0 an0 od1 an1 od2 an2 od3 an3 od4 an4 od5 an5 od6 an6 od7 an7 od8 an8 od9 an9 od10 an10 od11 an11 od12 an12 od13 an13 od14 an14 od15 an15 od16 an16 od17 an17 od18 an18 od19 an19 od20 an20 od21 an21 od22 an22 : Option Addr} {sl0 sl1 sl2 sl3 sl4 sl5 sl6 sl7 sl8 sl9 sl10 sl11 sl12 sl13 sl14 sl15 sl16 sl17 sl18 sl19 sl20 sl21 sl22 : Array (Option Value)} {oc0 kV0 dc0 pm0 cd0 ct0 oc1 kV1 dc1 pm1 cd1 ct1 oc2 kV2 dc2 pm2 cd2 ct2 oc3 kV3 dc3 pm3 cd3 ct3 oc4 kV4 dc4 pm4 cd4 ct4 oc5 kV5 dc5 pm5 cd5 ct5 oc6 kV6 dc6 pm6 cd6 ct6 oc7 kV7 dc7 pm7 cd7 ct7 oc8 kV8 dc8 pm8 cd8 ct8 oc9 kV9 dc9 pm9 cd9 ct9 oc10 kV10 dc10 pm10 cd10 ct10 oc11 kV11 dc11 pm11 cd11 ct11 oc12 kV12 dc12 pm12 cd12 ct12 oc13 kV13 dc13 pm13 cd13 ct13 oc14 kV14 dc14 pm14 cd14 ct14 oc15 kV15 dc15 pm15 cd15 ct15 oc16 kV16 dc16 pm16 cd16 ct16 oc17 kV17 dc17 pm17 cd17 ct17 oc18 kV18 dc18 pm18 cd18 ct18 oc19 kV19 dc19 pm19 cd19 ct19 oc20 kV20 dc20 pm20 cd20 ct20 oc21 kV21 dc21 pm21 cd21 ct21 oc22 kV22 dc22 pm22 cd22 ct22 : Value}
    {f0 f1 f2 f3 f4 f5 f6 f7 f8 f9 f10 f11 f12 f13 f14 f15 f16 f17 f18 f19 f20 f21 f22 C_KindError C_ByZero C_Ratio : Addr}
    (aC_KindError : PySem.W.nsIn K mainGlobals "KindError" = some (some (.ref C_KindError)))
    (aC_ByZero : PySem.W.nsIn K mainGlobals "ByZero" = some (some (.ref C_ByZero)))
    (aC_Ratio : PySem.W.nsIn K mainGlobals "Ratio" = some (some (.ref C_Ratio)))
    (a0 : PySem.W.findIn K (.ref C_Ratio) "__init__" = some (some (.ref f0)))
    {D0 : Addr} {Dd0 : Option Addr} {Dn0 : Nat} {Ds0 : Array (Option Value)} {Dt0_0 : Tok}
    (l0 : K.lookup f0 = some ⟨oc0, od0, .func (PySem.W.fnOf "__init__" "Ratio.__init__" (defArgs s_Ratio_init) (defBody s_Ratio_init) (defScope s_Ratio_init) (.ref D0) kV0 dc0 pm0 an0 cd0 ct0), sl0⟩)
    (ld0 : K.lookup D0 = some ⟨.type "tuple", Dd0, .seq #[.int 1 Dt0_0] Dn0, Ds0⟩)
    (e0 : PySem.W.codeIn K cd0 "Ratio.__init__" = true)
    (k0 : PySem.W.keepIn K (.ref f0) = true)
    {P1 : Addr} {R1 : List Value}
    (a1 : PySem.W.findIn K (.ref C_Ratio) "top" = some (some (.ref P1)))
    (pg1 : PySem.W.specialIn K (.ref P1) "__get__" = some (some (.builtin "property.__get__")))
    (pt1 : PySem.W.takesIn K (.ref P1) = some true)
    (pr1 : PySem.W.recIn K P1 "property" = some (.ref f1 :: R1))
    (l1 : K.lookup f1 = some ⟨oc1, od1, .func (PySem.W.fnOf "top" "Ratio.top" (defArgs s_Ratio_top) (defBody s_Ratio_top) (defScope s_Ratio_top) .none kV1 dc1 pm1 an1 cd1 ct1), sl1⟩)
    (e1 : PySem.W.codeIn K cd1 "Ratio.top" = true)
    (k1 : PySem.W.keepIn K (.ref f1) = true)
    {P2 : Addr} {R2 : List Value}
    (a2 : PySem.W.findIn K (.ref C_Ratio) "bottom" = some (some (.ref P2)))
    (pg2 : PySem.W.specialIn K (.ref P2) "__get__" = some (some (.builtin "property.__get__")))
    (pt2 : PySem.W.takesIn K (.ref P2) = some true)
    (pr2 : PySem.W.recIn K P2 "property" = some (.ref f2 :: R2))
    (l2 : K.lookup f2 = some ⟨oc2, od2, .func (PySem.W.fnOf "bottom" "Ratio.bottom" (defArgs s_Ratio_bottom) (defBody s_Ratio_bottom) (defScope s_Ratio_bottom) .none kV2 dc2 pm2 an2 cd2 ct2), sl2⟩)
    (e2 : PySem.W.codeIn K cd2 "Ratio.bottom" = true)
    (k2 : PySem.W.keepIn K (.ref f2) = true)
    (a3 : PySem.W.findIn K (.ref C_Ratio) "__add__" = some (some (.ref f3)))
    (l3 : K.lookup f3 = some ⟨oc3, od3, .func (PySem.W.fnOf "__add__" "Ratio.__add__" (defArgs s_Ratio_add) (defBody s_Ratio_add) (defScope s_Ratio_add) .none kV3 dc3 pm3 an3 cd3 ct3), sl3⟩)
    (e3 : PySem.W.codeIn K cd3 "Ratio.__add__" = true)
    (k3 : PySem.W.keepIn K (.ref f3) = true)
    (a4 : PySem.W.findIn K (.ref C_Ratio) "__sub__" = some (some (.ref f4)))
    (l4 : K.lookup f4 = some ⟨oc4, od4, .func (PySem.W.fnOf "__sub__" "Ratio.__sub__" (defArgs s_Ratio_sub) (defBody s_Ratio_sub) (defScope s_Ratio_sub) .none kV4 dc4 pm4 an4 cd4 ct4), sl4⟩)
    (e4 : PySem.W.codeIn K cd4 "Ratio.__sub__" = true)
    (k4 : PySem.W.keepIn K (.ref f4) = true)
    (a5 : PySem.W.findIn K (.ref C_Ratio) "__mul__" = some (some (.ref f5)))
    (l5 : K.lookup f5 = some ⟨oc5, od5, .func (PySem.W.fnOf "__mul__" "Ratio.__mul__" (defArgs s_Ratio_mul) (defBody s_Ratio_mul) (defScope s_Ratio_mul) .none kV5 dc5 pm5 an5 cd5 ct5), sl5⟩)
    (e5 : PySem.W.codeIn K cd5 "Ratio.__mul__" = true)
    (k5 : PySem.W.keepIn K (.ref f5) = true)
    (a6 : PySem.W.findIn K (.ref C_Ratio) "__eq__" = some (some (.ref f6)))
    (l6 : K.lookup f6 = some ⟨oc6, od6, .func (PySem.W.fnOf "__eq__" "Ratio.__eq__" (defArgs s_Ratio_eq) (defBody s_Ratio_eq) (defScope s_Ratio_eq) .none kV6 dc6 pm6 an6 cd6 ct6), sl6⟩)
    (e6 : PySem.W.codeIn K cd6 "Ratio.__eq__" = true)
    (k6 : PySem.W.keepIn K (.ref f6) = true)
    (a7 : PySem.W.findIn K (.ref C_Ratio) "over" = some (some (.ref f7)))
    (l7 : K.lookup f7 = some ⟨oc7, od7, .func (PySem.W.fnOf "over" "Ratio.over" (defArgs s_Ratio_over) (defBody s_Ratio_over) (defScope s_Ratio_over) .none kV7 dc7 pm7 an7 cd7 ct7), sl7⟩)
    (e7 : PySem.W.codeIn K cd7 "Ratio.over" = true)
    (k7 : PySem.W.keepIn K (.ref f7) = true)
    (a8 : PySem.W.findIn K (.ref C_Ratio) "below" = some (some (.ref f8)))
    (l8 : K.lookup f8 = some ⟨oc8, od8, .func (PySem.W.fnOf "below" "Ratio.below" (defArgs s_Ratio_below) (defBody s_Ratio_below) (defScope s_Ratio_below) .none kV8 dc8 pm8 an8 cd8 ct8), sl8⟩)
    (e8 : PySem.W.codeIn K cd8 "Ratio.below" = true)
    (k8 : PySem.W.keepIn K (.ref f8) = true)
    (a9 : PySem.W.findIn K (.ref C_Ratio) "written" = some (some (.ref f9)))
    (l9 : K.lookup f9 = some ⟨oc9, od9, .func (PySem.W.fnOf "written" "Ratio.written" (defArgs s_Ratio_written) (defBody s_Ratio_written) (defScope s_Ratio_written) .none kV9 dc9 pm9 an9 cd9 ct9), sl9⟩)
    (e9 : PySem.W.codeIn K cd9 "Ratio.written" = true)
    (k9 : PySem.W.keepIn K (.ref f9) = true)
    (a10 : PySem.W.nsIn K mainGlobals "terms" = some (some (.ref f10)))
    (l10 : K.lookup f10 = some ⟨oc10, od10, .func (PySem.W.fnOf "terms" "terms" (defArgs s_terms) (defBody s_terms) (defScope s_terms) .none kV10 dc10 pm10 an10 cd10 ct10), sl10⟩)
    (e10 : PySem.W.codeIn K cd10 "terms" = true)
    (k10 : PySem.W.keepIn K (.ref f10) = true)
    (a11 : PySem.W.nsIn K mainGlobals "_law_cell" = some (some (.ref f11)))
    (l11 : K.lookup f11 = some ⟨oc11, od11, .func (PySem.W.fnOf "_law_cell" "_law_cell" (defArgs s_law_cell) (defBody s_law_cell) (defScope s_law_cell) .none kV11 dc11 pm11 an11 cd11 ct11), sl11⟩)
    (e11 : PySem.W.codeIn K cd11 "_law_cell" = true)
    (k11 : PySem.W.keepIn K (.ref f11) = true)
    (a12 : PySem.W.nsIn K mainGlobals "_law_box" = some (some (.ref f12)))
    (l12 : K.lookup f12 = some ⟨oc12, od12, .func (PySem.W.fnOf "_law_box" "_law_box" (defArgs s_law_box) (defBody s_law_box) (defScope s_law_box) .none kV12 dc12 pm12 an12 cd12 ct12), sl12⟩)
    (e12 : PySem.W.codeIn K cd12 "_law_box" = true)
    (k12 : PySem.W.keepIn K (.ref f12) = true)
    (a13 : PySem.W.nsIn K mainGlobals "_law_take" = some (some (.ref f13)))
    (l13 : K.lookup f13 = some ⟨oc13, od13, .func (PySem.W.fnOf "_law_take" "_law_take" (defArgs s_law_take) (defBody s_law_take) (defScope s_law_take) .none kV13 dc13 pm13 an13 cd13 ct13), sl13⟩)
    (e13 : PySem.W.codeIn K cd13 "_law_take" = true)
    (k13 : PySem.W.keepIn K (.ref f13) = true)
    (a14 : PySem.W.nsIn K mainGlobals "_law_low" = some (some (.ref f14)))
    (l14 : K.lookup f14 = some ⟨oc14, od14, .func (PySem.W.fnOf "_law_low" "_law_low" (defArgs s_law_low) (defBody s_law_low) (defScope s_law_low) .none kV14 dc14 pm14 an14 cd14 ct14), sl14⟩)
    (e14 : PySem.W.codeIn K cd14 "_law_low" = true)
    (k14 : PySem.W.keepIn K (.ref f14) = true)
    (a15 : PySem.W.nsIn K mainGlobals "_law_number" = some (some (.ref f15)))
    (l15 : K.lookup f15 = some ⟨oc15, od15, .func (PySem.W.fnOf "_law_number" "_law_number" (defArgs s_law_number) (defBody s_law_number) (defScope s_law_number) .none kV15 dc15 pm15 an15 cd15 ct15), sl15⟩)
    (e15 : PySem.W.codeIn K cd15 "_law_number" = true)
    (k15 : PySem.W.keepIn K (.ref f15) = true)
    (a16 : PySem.W.nsIn K mainGlobals "_law_pair" = some (some (.ref f16)))
    (l16 : K.lookup f16 = some ⟨oc16, od16, .func (PySem.W.fnOf "_law_pair" "_law_pair" (defArgs s_law_pair) (defBody s_law_pair) (defScope s_law_pair) .none kV16 dc16 pm16 an16 cd16 ct16), sl16⟩)
    (e16 : PySem.W.codeIn K cd16 "_law_pair" = true)
    (k16 : PySem.W.keepIn K (.ref f16) = true)
    (a17 : PySem.W.nsIn K mainGlobals "_law_told" = some (some (.ref f17)))
    (l17 : K.lookup f17 = some ⟨oc17, od17, .func (PySem.W.fnOf "_law_told" "_law_told" (defArgs s_law_told) (defBody s_law_told) (defScope s_law_told) .none kV17 dc17 pm17 an17 cd17 ct17), sl17⟩)
    (e17 : PySem.W.codeIn K cd17 "_law_told" = true)
    (k17 : PySem.W.keepIn K (.ref f17) = true)
    (a18 : PySem.W.nsIn K mainGlobals "_law_text" = some (some (.ref f18)))
    (l18 : K.lookup f18 = some ⟨oc18, od18, .func (PySem.W.fnOf "_law_text" "_law_text" (defArgs s_law_text) (defBody s_law_text) (defScope s_law_text) .none kV18 dc18 pm18 an18 cd18 ct18), sl18⟩)
    (e18 : PySem.W.codeIn K cd18 "_law_text" = true)
    (k18 : PySem.W.keepIn K (.ref f18) = true)
    (a19 : PySem.W.nsIn K mainGlobals "_law_over" = some (some (.ref f19)))
    (l19 : K.lookup f19 = some ⟨oc19, od19, .func (PySem.W.fnOf "_law_over" "_law_over" (defArgs s_law_over) (defBody s_law_over) (defScope s_law_over) .none kV19 dc19 pm19 an19 cd19 ct19), sl19⟩)
    (e19 : PySem.W.codeIn K cd19 "_law_over" = true)
    (k19 : PySem.W.keepIn K (.ref f19) = true)
    (a20 : PySem.W.nsIn K mainGlobals "_law_two_right" = some (some (.ref f20)))
    (l20 : K.lookup f20 = some ⟨oc20, od20, .func (PySem.W.fnOf "_law_two_right" "_law_two_right" (defArgs s_law_two_right) (defBody s_law_two_right) (defScope s_law_two_right) .none kV20 dc20 pm20 an20 cd20 ct20), sl20⟩)
    (e20 : PySem.W.codeIn K cd20 "_law_two_right" = true)
    (k20 : PySem.W.keepIn K (.ref f20) = true)
    (a21 : PySem.W.nsIn K mainGlobals "_law_refused" = some (some (.ref f21)))
    (l21 : K.lookup f21 = some ⟨oc21, od21, .func (PySem.W.fnOf "_law_refused" "_law_refused" (defArgs s_law_refused) (defBody s_law_refused) (defScope s_law_refused) .none kV21 dc21 pm21 an21 cd21 ct21), sl21⟩)
    (e21 : PySem.W.codeIn K cd21 "_law_refused" = true)
    (k21 : PySem.W.keepIn K (.ref f21) = true)
    (a22 : PySem.W.nsIn K mainGlobals "law" = some (some (.ref f22)))
    (l22 : K.lookup f22 = some ⟨oc22, od22, .func (PySem.W.fnOf "law" "law" (defArgs s_law) (defBody s_law) (defScope s_law) .none kV22 dc22 pm22 an22 cd22 ct22), sl22⟩)
    (e22 : PySem.W.codeIn K cd22 "law" = true)
    (k22 : PySem.W.keepIn K (.ref f22) = true)
    (z_abs : PySem.W.nsIn K mainGlobals "abs" = some none)
    (z_bool : PySem.W.nsIn K mainGlobals "bool" = some none)
    (z_int : PySem.W.nsIn K mainGlobals "int" = some none)
    (z_isinstance : PySem.W.nsIn K mainGlobals "isinstance" = some none)
    (z_len : PySem.W.nsIn K mainGlobals "len" = some none)
    (z_list : PySem.W.nsIn K mainGlobals "list" = some none)
    (z_max : PySem.W.nsIn K mainGlobals "max" = some none)
    (z_min : PySem.W.nsIn K mainGlobals "min" = some none)
    (z_range : PySem.W.nsIn K mainGlobals "range" = some none)
    (z_repr : PySem.W.nsIn K mainGlobals "repr" = some none)
    (z_str : PySem.W.nsIn K mainGlobals "str" = some none)
    (z_sum : PySem.W.nsIn K mainGlobals "sum" = some none)
    (g_gcd : PySem.W.nsIn K mainGlobals "gcd" = some (some (.builtin "math.gcd")))
    (cn : PySem.W.specialIn K (.builtin "object.__class__") "__get__" = some (some (.builtin "getset_descriptor.__get__")))
    (ct : PySem.W.takesIn K (.builtin "object.__class__") = some true)
    (x_ByZero : PySem.W.excIn K C_ByZero [.type "ValueError", .type "Exception", .type "BaseException", .type "object"] "ValueError.__new__" = true)
    (k_ByZero : PySem.W.keepIn K (.ref C_ByZero) = true)
    (b_ByZero : PySem.W.subIn K (.ref C_ByZero) (.type "BaseException") = some true)
    (t_ByZero : PySem.W.typeIn K (.ref C_ByZero) = some (.type "type"))
    (i_ByZero : PySem.W.isClsIn K C_ByZero = true)
    (sC_ByZero : PySem.W.subIn K (.ref C_ByZero) (.ref C_ByZero) = some true)
    (c1_Ratio : PySem.W.plainGet K C_Ratio Str.empty = true)
    (c2_Ratio : PySem.W.hasDictIn K C_Ratio = true)
    (c3_Ratio : PySem.W.plainOver K C_Ratio = true)
    (c4_Ratio : PySem.W.findIn K (.ref C_Ratio) "__setattr__" = some (some (.builtin "object.__setattr__")))
    (mk1_Ratio : PySem.W.makesIn K C_Ratio = true)
    (mk2_Ratio : PySem.W.isFn K (.ref f0) = true)
    (mk3_Ratio : PySem.W.keepIn K (.ref C_Ratio) = true)
    (ca_Ratio : PySem.W.findIn K (.ref C_Ratio) "__class__" = some (some (.builtin "object.__class__")))
    (cm_Ratio : PySem.W.mroIn K C_Ratio (.type "object") = some true)
    (sf_Ratio : PySem.W.selfFirst K C_Ratio = true)
    (sub_Ratio : PySem.W.subIn K (.type "int") (.ref C_Ratio) = some false)
    (iC_Ratio : PySem.W.isClsIn K C_Ratio = true)
    (tC_Ratio : PySem.W.typeIn K (.ref C_Ratio) = some (.type "type"))
    (nf_Ratio_int : PySem.W.notFirst K C_Ratio (.type "int") = true)
    (ki_Ratio_int : PySem.W.subIn K (.type "int") (.ref C_Ratio) = some false)
    (nf_Ratio_bool : PySem.W.notFirst K C_Ratio (.type "bool") = true)
    (ki_Ratio_bool : PySem.W.subIn K (.type "bool") (.ref C_Ratio) = some false)
    (nf_Ratio_NoneType : PySem.W.notFirst K C_Ratio (.type "NoneType") = true)
    (ki_Ratio_NoneType : PySem.W.subIn K (.type "NoneType") (.ref C_Ratio) = some false)
    (nf_Ratio_str : PySem.W.notFirst K C_Ratio (.type "str") = true)
    (ki_Ratio_str : PySem.W.subIn K (.type "str") (.ref C_Ratio) = some false)
    (nf_Ratio_tuple : PySem.W.notFirst K C_Ratio (.type "tuple") = true)
    (ki_Ratio_tuple : PySem.W.subIn K (.type "tuple") (.ref C_Ratio) = some false)
    (nf_Ratio_list : PySem.W.notFirst K C_Ratio (.type "list") = true)
    (ki_Ratio_list : PySem.W.subIn K (.type "list") (.ref C_Ratio) = some false)
    (nf_Ratio_dict : PySem.W.notFirst K C_Ratio (.type "dict") = true)
    (ki_Ratio_dict : PySem.W.subIn K (.type "dict") (.ref C_Ratio) = some false)
    (na_Ratio_top : PySem.W.findIn K (.ref C_Ratio) "_top" = some none)
    (na_Ratio_bottom : PySem.W.findIn K (.ref C_Ratio) "_bottom" = some none)
    (fn_Ratio_init : PySem.W.isFn K (.ref f0) = true)
    (fn_Ratio_add : PySem.W.isFn K (.ref f3) = true)
    {fo_Ratio_add ro_Ratio_add : Option Value}
    (r_Ratio_add : PySem.W.findIn K (.ref C_Ratio) "__radd__" = some none)
    (h1_Ratio_add : PySem.W.findIn K (.type "int") "__add__" = some fo_Ratio_add)
    (h2_Ratio_add : PySem.W.findIn K (.type "int") "__radd__" = some ro_Ratio_add)
    (fn_Ratio_sub : PySem.W.isFn K (.ref f4) = true)
    {fo_Ratio_sub ro_Ratio_sub : Option Value}
    (r_Ratio_sub : PySem.W.findIn K (.ref C_Ratio) "__rsub__" = some none)
    (h1_Ratio_sub : PySem.W.findIn K (.type "int") "__sub__" = some fo_Ratio_sub)
    (h2_Ratio_sub : PySem.W.findIn K (.type "int") "__rsub__" = some ro_Ratio_sub)
    (fn_Ratio_mul : PySem.W.isFn K (.ref f5) = true)
    {fo_Ratio_mul ro_Ratio_mul : Option Value}
    (r_Ratio_mul : PySem.W.findIn K (.ref C_Ratio) "__rmul__" = some none)
    (h1_Ratio_mul : PySem.W.findIn K (.type "int") "__mul__" = some fo_Ratio_mul)
    (h2_Ratio_mul : PySem.W.findIn K (.type "int") "__rmul__" = some ro_Ratio_mul)
    (fn_Ratio_eq : PySem.W.isFn K (.ref f6) = true)
    (fn_Ratio_over : PySem.W.isFn K (.ref f7) = true)
    (fn_Ratio_below : PySem.W.isFn K (.ref f8) = true)
    (fn_Ratio_written : PySem.W.isFn K (.ref f9) = true)
    : ∃ fd : FuncData, (∀ (s : Shared) (v : Value), BindsTo s fd ⟨[v], []⟩ [("script", v)]) ∧ ∀ base : Heap, K.In base → base.Ns mainGlobals mg → FnOk l.prog w K mg base CX0 8 fa fd ["script"] (spLaw K) := by
  have e := hfa.symm.trans (PySem.W.mg_of X G a22)
  cases e
  have F0 : FunD K "__init__" "Ratio.__init__" (defArgs s_Ratio_init) (defBody s_Ratio_init) (defScope s_Ratio_init) [.int 1] [] f0 (PySem.W.fnOf "__init__" "Ratio.__init__" (defArgs s_Ratio_init) (defBody s_Ratio_init) (defScope s_Ratio_init) (.ref D0) kV0 dc0 pm0 an0 cd0 ct0) := ⟨⟨_, _, _, _, _, _, _, _, _, _, rfl, l0, e0, Or.inr ⟨by simp, _, _, _, _, rfl, ld0, rfl, (.cons ⟨_, rfl⟩ .nil)⟩, Or.inl rfl⟩, k0⟩
  have b0 := bindsAll (ps := ["self", "top", "bottom"]) F0 (by simp) (fun _ _ _ _ _ _ _ us its hl _ => match us, its, hl with | [_, _, _], [_], _ => ⟨_, rfl, rfl⟩)
  have F1 := fun_mk (st := s_Ratio_top) l1 e1 k1
  have b1 := F1.binds (ps := ["self"]) fun _ _ _ _ _ _ us hl => match us, hl with | [_], _ => rfl
  have F2 := fun_mk (st := s_Ratio_bottom) l2 e2 k2
  have b2 := F2.binds (ps := ["self"]) fun _ _ _ _ _ _ us hl => match us, hl with | [_], _ => rfl
  have F3 := fun_mk (st := s_Ratio_add) l3 e3 k3
  have b3 := F3.binds (ps := ["self", "other"]) fun _ _ _ _ _ _ us hl => match us, hl with | [_, _], _ => rfl
  have F4 := fun_mk (st := s_Ratio_sub) l4 e4 k4
  have b4 := F4.binds (ps := ["self", "other"]) fun _ _ _ _ _ _ us hl => match us, hl with | [_, _], _ => rfl
  have F5 := fun_mk (st := s_Ratio_mul) l5 e5 k5
  have b5 := F5.binds (ps := ["self", "other"]) fun _ _ _ _ _ _ us hl => match us, hl with | [_, _], _ => rfl
  have F6 := fun_mk (st := s_Ratio_eq) l6 e6 k6
  have b6 := F6.binds (ps := ["self", "other"]) fun _ _ _ _ _ _ us hl => match us, hl with | [_, _], _ => rfl
  have F7 := fun_mk (st := s_Ratio_over) l7 e7 k7
  have b7 := F7.binds (ps := ["self", "number"]) fun _ _ _ _ _ _ us hl => match us, hl with | [_, _], _ => rfl
  have F8 := fun_mk (st := s_Ratio_below) l8 e8 k8
  have b8 := F8.binds (ps := ["self", "number"]) fun _ _ _ _ _ _ us hl => match us, hl with | [_, _], _ => rfl
  have F9 := fun_mk (st := s_Ratio_written) l9 e9 k9
  have b9 := F9.binds (ps := ["self"]) fun _ _ _ _ _ _ us hl => match us, hl with | [_], _ => rfl
  have F10 := fun_mk (st := s_terms) l10 e10 k10
  have b10 := F10.binds (ps := ["number"]) fun _ _ _ _ _ _ us hl => match us, hl with | [_], _ => rfl
  have F11 := fun_mk (st := s_law_cell) l11 e11 k11
  have b11 := F11.binds (ps := ["script", "k"]) fun _ _ _ _ _ _ us hl => match us, hl with | [_, _], _ => rfl
  have F12 := fun_mk (st := s_law_box) l12 e12 k12
  have b12 := F12.binds (ps := ["cell"]) fun _ _ _ _ _ _ us hl => match us, hl with | [_], _ => rfl
  have F13 := fun_mk (st := s_law_take) l13 e13 k13
  have b13 := F13.binds (ps := ["box", "many"]) fun _ _ _ _ _ _ us hl => match us, hl with | [_, _], _ => rfl
  have F14 := fun_mk (st := s_law_low) l14 e14 k14
  have b14 := F14.binds (ps := ["high", "low"]) fun _ _ _ _ _ _ us hl => match us, hl with | [_, _], _ => rfl
  have F15 := fun_mk (st := s_law_number) l15 e15 k15
  have b15 := F15.binds (ps := ["box"]) fun _ _ _ _ _ _ us hl => match us, hl with | [_], _ => rfl
  have F16 := fun_mk (st := s_law_pair) l16 e16 k16
  have b16 := F16.binds (ps := ["box"]) fun _ _ _ _ _ _ us hl => match us, hl with | [_], _ => rfl
  have F17 := fun_mk (st := s_law_told) l17 e17 k17
  have b17 := F17.binds (ps := ["ratio"]) fun _ _ _ _ _ _ us hl => match us, hl with | [_], _ => rfl
  have F18 := fun_mk (st := s_law_text) l18 e18 k18
  have b18 := F18.binds (ps := ["pair"]) fun _ _ _ _ _ _ us hl => match us, hl with | [_], _ => rfl
  have F19 := fun_mk (st := s_law_over) l19 e19 k19
  have b19 := F19.binds (ps := ["one", "other"]) fun _ _ _ _ _ _ us hl => match us, hl with | [_, _], _ => rfl
  have F20 := fun_mk (st := s_law_two_right) l20 e20 k20
  have b20 := F20.binds (ps := ["first", "second", "one", "other"]) fun _ _ _ _ _ _ us hl => match us, hl with | [_, _, _, _], _ => rfl
  have F21 := fun_mk (st := s_law_refused) l21 e21 k21
  have b21 := F21.binds (ps := ["high"]) fun _ _ _ _ _ _ us hl => match us, hl with | [_], _ => rfl
  have F22 := fun_mk (st := s_law) l22 e22 k22
  have b22 := F22.binds (ps := ["script"]) fun _ _ _ _ _ _ us hl => match us, hl with | [_], _ => rfl
  have T : Top K mg {
    a_Ratio_init := f0, fd_Ratio_init := (PySem.W.fnOf "__init__" "Ratio.__init__" (defArgs s_Ratio_init) (defBody s_Ratio_init) (defScope s_Ratio_init) (.ref D0) kV0 dc0 pm0 an0 cd0 ct0),
    a_Ratio_top := f1, fd_Ratio_top := (PySem.W.fnOf "top" "Ratio.top" (defArgs s_Ratio_top) (defBody s_Ratio_top) (defScope s_Ratio_top) .none kV1 dc1 pm1 an1 cd1 ct1),
    a_Ratio_bottom := f2, fd_Ratio_bottom := (PySem.W.fnOf "bottom" "Ratio.bottom" (defArgs s_Ratio_bottom) (defBody s_Ratio_bottom) (defScope s_Ratio_bottom) .none kV2 dc2 pm2 an2 cd2 ct2),
    a_Ratio_add := f3, fd_Ratio_add := (PySem.W.fnOf "__add__" "Ratio.__add__" (defArgs s_Ratio_add) (defBody s_Ratio_add) (defScope s_Ratio_add) .none kV3 dc3 pm3 an3 cd3 ct3),
    a_Ratio_sub := f4, fd_Ratio_sub := (PySem.W.fnOf "__sub__" "Ratio.__sub__" (defArgs s_Ratio_sub) (defBody s_Ratio_sub) (defScope s_Ratio_sub) .none kV4 dc4 pm4 an4 cd4 ct4),
    a_Ratio_mul := f5, fd_Ratio_mul := (PySem.W.fnOf "__mul__" "Ratio.__mul__" (defArgs s_Ratio_mul) (defBody s_Ratio_mul) (defScope s_Ratio_mul) .none kV5 dc5 pm5 an5 cd5 ct5),
    a_Ratio_eq := f6, fd_Ratio_eq := (PySem.W.fnOf "__eq__" "Ratio.__eq__" (defArgs s_Ratio_eq) (defBody s_Ratio_eq) (defScope s_Ratio_eq) .none kV6 dc6 pm6 an6 cd6 ct6),
    a_Ratio_over := f7, fd_Ratio_over := (PySem.W.fnOf "over" "Ratio.over" (defArgs s_Ratio_over) (defBody s_Ratio_over) (defScope s_Ratio_over) .none kV7 dc7 pm7 an7 cd7 ct7),
    a_Ratio_below := f8, fd_Ratio_below := (PySem.W.fnOf "below" "Ratio.below" (defArgs s_Ratio_below) (defBody s_Ratio_below) (defScope s_Ratio_below) .none kV8 dc8 pm8 an8 cd8 ct8),
    a_Ratio_written := f9, fd_Ratio_written := (PySem.W.fnOf "written" "Ratio.written" (defArgs s_Ratio_written) (defBody s_Ratio_written) (defScope s_Ratio_written) .none kV9 dc9 pm9 an9 cd9 ct9),
    a_terms := f10, fd_terms := (PySem.W.fnOf "terms" "terms" (defArgs s_terms) (defBody s_terms) (defScope s_terms) .none kV10 dc10 pm10 an10 cd10 ct10),
    a_law_cell := f11, fd_law_cell := (PySem.W.fnOf "_law_cell" "_law_cell" (defArgs s_law_cell) (defBody s_law_cell) (defScope s_law_cell) .none kV11 dc11 pm11 an11 cd11 ct11),
    a_law_box := f12, fd_law_box := (PySem.W.fnOf "_law_box" "_law_box" (defArgs s_law_box) (defBody s_law_box) (defScope s_law_box) .none kV12 dc12 pm12 an12 cd12 ct12),
    a_law_take := f13, fd_law_take := (PySem.W.fnOf "_law_take" "_law_take" (defArgs s_law_take) (defBody s_law_take) (defScope s_law_take) .none kV13 dc13 pm13 an13 cd13 ct13),
    a_law_low := f14, fd_law_low := (PySem.W.fnOf "_law_low" "_law_low" (defArgs s_law_low) (defBody s_law_low) (defScope s_law_low) .none kV14 dc14 pm14 an14 cd14 ct14),
    a_law_number := f15, fd_law_number := (PySem.W.fnOf "_law_number" "_law_number" (defArgs s_law_number) (defBody s_law_number) (defScope s_law_number) .none kV15 dc15 pm15 an15 cd15 ct15),
    a_law_pair := f16, fd_law_pair := (PySem.W.fnOf "_law_pair" "_law_pair" (defArgs s_law_pair) (defBody s_law_pair) (defScope s_law_pair) .none kV16 dc16 pm16 an16 cd16 ct16),
    a_law_told := f17, fd_law_told := (PySem.W.fnOf "_law_told" "_law_told" (defArgs s_law_told) (defBody s_law_told) (defScope s_law_told) .none kV17 dc17 pm17 an17 cd17 ct17),
    a_law_text := f18, fd_law_text := (PySem.W.fnOf "_law_text" "_law_text" (defArgs s_law_text) (defBody s_law_text) (defScope s_law_text) .none kV18 dc18 pm18 an18 cd18 ct18),
    a_law_over := f19, fd_law_over := (PySem.W.fnOf "_law_over" "_law_over" (defArgs s_law_over) (defBody s_law_over) (defScope s_law_over) .none kV19 dc19 pm19 an19 cd19 ct19),
    a_law_two_right := f20, fd_law_two_right := (PySem.W.fnOf "_law_two_right" "_law_two_right" (defArgs s_law_two_right) (defBody s_law_two_right) (defScope s_law_two_right) .none kV20 dc20 pm20 an20 cd20 ct20),
    a_law_refused := f21, fd_law_refused := (PySem.W.fnOf "_law_refused" "_law_refused" (defArgs s_law_refused) (defBody s_law_refused) (defScope s_law_refused) .none kV21 dc21 pm21 an21 cd21 ct21),
    a_law := fa, fd_law := (PySem.W.fnOf "law" "law" (defArgs s_law) (defBody s_law) (defScope s_law) .none kV22 dc22 pm22 an22 cd22 ct22),
    c_KindError := C_KindError,
    c_ByZero := C_ByZero,
    c_Ratio := C_Ratio,
    p_Ratio_top := P1,
    p_Ratio_bottom := P2 } := {
    F_Ratio_init := F0, b_Ratio_init := b0,
    F_Ratio_top := F1, b_Ratio_top := b1,
    F_Ratio_bottom := F2, b_Ratio_bottom := b2,
    F_Ratio_add := F3, b_Ratio_add := b3,
    F_Ratio_sub := F4, b_Ratio_sub := b4,
    F_Ratio_mul := F5, b_Ratio_mul := b5,
    F_Ratio_eq := F6, b_Ratio_eq := b6,
    F_Ratio_over := F7, b_Ratio_over := b7,
    F_Ratio_below := F8, b_Ratio_below := b8,
    F_Ratio_written := F9, b_Ratio_written := b9,
    F_terms := F10, b_terms := b10, m_terms := PySem.W.mg_of X G a10,
    F_law_cell := F11, b_law_cell := b11, m_law_cell := PySem.W.mg_of X G a11,
    F_law_box := F12, b_law_box := b12, m_law_box := PySem.W.mg_of X G a12,
    F_law_take := F13, b_law_take := b13, m_law_take := PySem.W.mg_of X G a13,
    F_law_low := F14, b_law_low := b14, m_law_low := PySem.W.mg_of X G a14,
    F_law_number := F15, b_law_number := b15, m_law_number := PySem.W.mg_of X G a15,
    F_law_pair := F16, b_law_pair := b16, m_law_pair := PySem.W.mg_of X G a16,
    F_law_told := F17, b_law_told := b17, m_law_told := PySem.W.mg_of X G a17,
    F_law_text := F18, b_law_text := b18, m_law_text := PySem.W.mg_of X G a18,
    F_law_over := F19, b_law_over := b19, m_law_over := PySem.W.mg_of X G a19,
    F_law_two_right := F20, b_law_two_right := b20, m_law_two_right := PySem.W.mg_of X G a20,
    F_law_refused := F21, b_law_refused := b21, m_law_refused := PySem.W.mg_of X G a21,
    F_law := F22, b_law := b22, m_law := PySem.W.mg_of X G a22,
    n_abs := PySem.W.mg_none_of X G z_abs,
    n_bool := PySem.W.mg_none_of X G z_bool,
    n_int := PySem.W.mg_none_of X G z_int,
    n_isinstance := PySem.W.mg_none_of X G z_isinstance,
    n_len := PySem.W.mg_none_of X G z_len,
    n_list := PySem.W.mg_none_of X G z_list,
    n_max := PySem.W.mg_none_of X G z_max,
    n_min := PySem.W.mg_none_of X G z_min,
    n_range := PySem.W.mg_none_of X G z_range,
    n_repr := PySem.W.mg_none_of X G z_repr,
    n_str := PySem.W.mg_none_of X G z_str,
    n_sum := PySem.W.mg_none_of X G z_sum,
    m_gcd := PySem.W.mg_of X G g_gcd,
    cn := cn, ct := ct,
    m_KindError := PySem.W.mg_of X G aC_KindError,
    m_ByZero := PySem.W.mg_of X G aC_ByZero,
    x_ByZero := x_ByZero, k_ByZero := k_ByZero, b_ByZero := b_ByZero, t_ByZero := t_ByZero, te_ByZero := U.exm_self b_ByZero i_ByZero t_ByZero sC_ByZero,
    m_Ratio := PySem.W.mg_of X G aC_Ratio,
    cls_Ratio := ⟨c1_Ratio, c2_Ratio, c3_Ratio, c4_Ratio⟩, mk_Ratio := ⟨mk1_Ratio, a0, mk2_Ratio, mk3_Ratio⟩, ca_Ratio := ca_Ratio, cm_Ratio := cm_Ratio, sf_Ratio := sf_Ratio, sub_Ratio := sub_Ratio,
    nf_Ratio_int := nf_Ratio_int, ki_Ratio_int := kit_no iC_Ratio tC_Ratio ki_Ratio_int,
    nf_Ratio_bool := nf_Ratio_bool, ki_Ratio_bool := kit_no iC_Ratio tC_Ratio ki_Ratio_bool,
    nf_Ratio_NoneType := nf_Ratio_NoneType, ki_Ratio_NoneType := kit_no iC_Ratio tC_Ratio ki_Ratio_NoneType,
    nf_Ratio_str := nf_Ratio_str, ki_Ratio_str := kit_no iC_Ratio tC_Ratio ki_Ratio_str,
    nf_Ratio_tuple := nf_Ratio_tuple, ki_Ratio_tuple := kit_no iC_Ratio tC_Ratio ki_Ratio_tuple,
    nf_Ratio_list := nf_Ratio_list, ki_Ratio_list := kit_no iC_Ratio tC_Ratio ki_Ratio_list,
    nf_Ratio_dict := nf_Ratio_dict, ki_Ratio_dict := kit_no iC_Ratio tC_Ratio ki_Ratio_dict,
    na_Ratio_top := na_Ratio_top,
    na_Ratio_bottom := na_Ratio_bottom,
    pr_Ratio_top := ⟨a1, pg1, pt1, ⟨_, pr1⟩⟩,
    pr_Ratio_bottom := ⟨a2, pg2, pt2, ⟨_, pr2⟩⟩,
    s_Ratio_add := a3, fn_Ratio_add := fn_Ratio_add,
    r_Ratio_add := r_Ratio_add, hi_Ratio_add := ⟨_, _, h1_Ratio_add, h2_Ratio_add⟩,
    s_Ratio_sub := a4, fn_Ratio_sub := fn_Ratio_sub,
    r_Ratio_sub := r_Ratio_sub, hi_Ratio_sub := ⟨_, _, h1_Ratio_sub, h2_Ratio_sub⟩,
    s_Ratio_mul := a5, fn_Ratio_mul := fn_Ratio_mul,
    r_Ratio_mul := r_Ratio_mul, hi_Ratio_mul := ⟨_, _, h1_Ratio_mul, h2_Ratio_mul⟩,
    s_Ratio_eq := a6, fn_Ratio_eq := fn_Ratio_eq,
    me_Ratio_over := ⟨a7, fn_Ratio_over, k7⟩,
    me_Ratio_below := ⟨a8, fn_Ratio_below, k8⟩,
    me_Ratio_written := ⟨a9, fn_Ratio_written, k9⟩ }
  exact ⟨PySem.W.fnOf "law" "law" (defArgs s_law) (defBody s_law) (defScope s_law) .none kV22 dc22 pm22 an22 cd22 ct22, fun s v => .of_eq rfl, fun base _ _ => ok_law T⟩
theorem walk {l : PySem.W.OpenLaw} {q : Program} {loose : List Str} {XP : (Str → Option Value) → Heap → Prop} {YP : World → Heap → Prop} {d : DefRec} {K : Params → PySem.W.Frag} (hn : l.most = some 63) (hdf : d.params.defaults = [])
    (hY : ∀ (w : World) (h : Heap), YP w h → (K w.params).In h)
    (F : ∀ (w : World) (mg : Str → Option Value) (fa : Addr) (h : Heap), (K w.params).In h → h.Ns mainGlobals mg → mg d.name = some (.ref fa) →
      ∃ fd : FuncData, (∀ (s : Shared) (u : Value), BindsTo s fd ⟨[u], []⟩ [("script", u)]) ∧ ∀ base : Heap, (K w.params).In base → base.Ns mainGlobals mg → FnOk l.prog w (K w.params) mg base CX0 8 fa fd ["script"] (spLaw (K w.params))) :
    PySem.W.WalkO q loose XP YP l.row.toRowW d [] (fun f vs => PySem.call f vs) :=
  L2.walk_of (n := 63) (k := 8) (x := "script") (CX := fun _ => CX0) (sp := fun w => spLaw (K w.params)) hn (by decide) hdf ⟨rfl, by decide, by decide⟩ hY F (fun _ _ a ns hl _ hS => ⟨a, ns, rfl, hS, hl, fun _ => rfl⟩) fun _ _ _ _ _ z => z
end Toy
open PySem PySem.W PyProof.Rows
set_option maxRecDepth 100000 in
set_option maxHeartbeats 0 in
theorem PySem.Challenge.cw_widestkind_k02_ratios_holds : PySem.Challenge.rw_widestkind_k02_ratios.Holds := by
  w_on; o_law; k_head; (case hw => w_witness2)
  k_fill
  refine Toy.walk (l := PySem.Challenge.rw_widestkind_k02_ratios) rfl rfl (fun w h Y => PySem.W.kIn_of Y) ?F
  case F =>
    intro w mg fa h KX G hmg
    refine' Toy.all_mk KX G hmg ?aC_KindError ?aC_ByZero ?aC_Ratio ?a0 ?l0 ?ld0 ?e0 ?k0 ?a1 ?pg1 ?pt1 ?pr1 ?l1 ?e1 ?k1 ?a2 ?pg2 ?pt2 ?pr2 ?l2 ?e2 ?k2 ?a3 ?l3 ?e3 ?k3 ?a4 ?l4 ?e4 ?k4 ?a5 ?l5 ?e5 ?k5 ?a6 ?l6 ?e6 ?k6 ?a7 ?l7 ?e7 ?k7 ?a8 ?l8 ?e8 ?k8 ?a9 ?l9 ?e9 ?k9 ?a10 ?l10 ?e10 ?k10 ?a11 ?l11 ?e11 ?k11 ?a12 ?l12 ?e12 ?k12 ?a13 ?l13 ?e13 ?k13 ?a14 ?l14 ?e14 ?k14 ?a15 ?l15 ?e15 ?k15 ?a16 ?l16 ?e16 ?k16 ?a17 ?l17 ?e17 ?k17 ?a18 ?l18 ?e18 ?k18 ?a19 ?l19 ?e19 ?k19 ?a20 ?l20 ?e20 ?k20 ?a21 ?l21 ?e21 ?k21 ?a22 ?l22 ?e22 ?k22 ?z_abs ?z_bool ?z_int ?z_isinstance ?z_len ?z_list ?z_max ?z_min ?z_range ?z_repr ?z_str ?z_sum ?g_gcd ?cn ?ct ?x_ByZero ?k_ByZero ?b_ByZero ?t_ByZero ?i_ByZero ?sC_ByZero ?c1_Ratio ?c2_Ratio ?c3_Ratio ?c4_Ratio ?mk1_Ratio ?mk2_Ratio ?mk3_Ratio ?ca_Ratio ?cm_Ratio ?sf_Ratio ?sub_Ratio ?iC_Ratio ?tC_Ratio ?nf_Ratio_int ?ki_Ratio_int ?nf_Ratio_bool ?ki_Ratio_bool ?nf_Ratio_NoneType ?ki_Ratio_NoneType ?nf_Ratio_str ?ki_Ratio_str ?nf_Ratio_tuple ?ki_Ratio_tuple ?nf_Ratio_list ?ki_Ratio_list ?nf_Ratio_dict ?ki_Ratio_dict ?na_Ratio_top ?na_Ratio_bottom ?fn_Ratio_init ?fn_Ratio_add ?r_Ratio_add ?h1_Ratio_add ?h2_Ratio_add ?fn_Ratio_sub ?r_Ratio_sub ?h1_Ratio_sub ?h2_Ratio_sub ?fn_Ratio_mul ?r_Ratio_mul ?h1_Ratio_mul ?h2_Ratio_mul ?fn_Ratio_eq ?fn_Ratio_over ?fn_Ratio_below ?fn_Ratio_written
    (case aC_KindError => k_is)
    (case aC_ByZero => k_is)
    (case aC_Ratio => k_is)
    (case a0 => k_is)
    (case l0 => k_is)
    (case ld0 => k_is)
    (case e0 => k_is)
    (case k0 => k_is)
    (case a1 => k_is)
    (case pg1 => k_is)
    (case pt1 => k_is)
    (case pr1 => k_is)
    (case l1 => k_is)
    (case e1 => k_is)
    (case k1 => k_is)
    (case a2 => k_is)
    (case pg2 => k_is)
    (case pt2 => k_is)
    (case pr2 => k_is)
    (case l2 => k_is)
    (case e2 => k_is)
    (case k2 => k_is)
    (case a3 => k_is)
    (case l3 => k_is)
    (case e3 => k_is)
    (case k3 => k_is)
    (case a4 => k_is)
    (case l4 => k_is)
    (case e4 => k_is)
    (case k4 => k_is)
    (case a5 => k_is)
    (case l5 => k_is)
    (case e5 => k_is)
    (case k5 => k_is)
    (case a6 => k_is)
    (case l6 => k_is)
    (case e6 => k_is)
    (case k6 => k_is)
    (case a7 => k_is)
    (case l7 => k_is)
    (case e7 => k_is)
    (case k7 => k_is)
    (case a8 => k_is)
    (case l8 => k_is)
    (case e8 => k_is)
    (case k8 => k_is)
    (case a9 => k_is)
    (case l9 => k_is)
    (case e9 => k_is)
    (case k9 => k_is)
    (case a10 => k_is)
    (case l10 => k_is)
    (case e10 => k_is)
    (case k10 => k_is)
    (case a11 => k_is)
    (case l11 => k_is)
    (case e11 => k_is)
    (case k11 => k_is)
    (case a12 => k_is)
    (case l12 => k_is)
    (case e12 => k_is)
    (case k12 => k_is)
    (case a13 => k_is)
    (case l13 => k_is)
    (case e13 => k_is)
    (case k13 => k_is)
    (case a14 => k_is)
    (case l14 => k_is)
    (case e14 => k_is)
    (case k14 => k_is)
    (case a15 => k_is)
    (case l15 => k_is)
    (case e15 => k_is)
    (case k15 => k_is)
    (case a16 => k_is)
    (case l16 => k_is)
    (case e16 => k_is)
    (case k16 => k_is)
    (case a17 => k_is)
    (case l17 => k_is)
    (case e17 => k_is)
    (case k17 => k_is)
    (case a18 => k_is)
    (case l18 => k_is)
    (case e18 => k_is)
    (case k18 => k_is)
    (case a19 => k_is)
    (case l19 => k_is)
    (case e19 => k_is)
    (case k19 => k_is)
    (case a20 => k_is)
    (case l20 => k_is)
    (case e20 => k_is)
    (case k20 => k_is)
    (case a21 => k_is)
    (case l21 => k_is)
    (case e21 => k_is)
    (case k21 => k_is)
    (case a22 => k_is)
    (case l22 => k_is)
    (case e22 => k_is)
    (case k22 => k_is)
    (case z_abs => k_is)
    (case z_bool => k_is)
    (case z_int => k_is)
    (case z_isinstance => k_is)
    (case z_len => k_is)
    (case z_list => k_is)
    (case z_max => k_is)
    (case z_min => k_is)
    (case z_range => k_is)
    (case z_repr => k_is)
    (case z_str => k_is)
    (case z_sum => k_is)
    (case g_gcd => k_is)
    (case cn => k_is)
    (case ct => k_is)
    (case x_ByZero => k_exc)
    (case k_ByZero => k_is)
    (case b_ByZero => k_is)
    (case t_ByZero => k_is)
    (case i_ByZero => k_is)
    (case sC_ByZero => first | rfl | k_is)
    (case c1_Ratio => k_is)
    (case c2_Ratio => k_is)
    (case c3_Ratio => k_is)
    (case c4_Ratio => k_is)
    (case mk1_Ratio => k_is)
    (case mk2_Ratio => k_is)
    (case mk3_Ratio => k_is)
    (case ca_Ratio => k_is)
    (case cm_Ratio => k_is)
    (case sf_Ratio => k_is)
    (case sub_Ratio => k_is)
    (case iC_Ratio => k_is)
    (case tC_Ratio => k_is)
    (case nf_Ratio_int => k_is)
    (case ki_Ratio_int => k_is)
    (case nf_Ratio_bool => k_is)
    (case ki_Ratio_bool => k_is)
    (case nf_Ratio_NoneType => k_is)
    (case ki_Ratio_NoneType => k_is)
    (case nf_Ratio_str => k_is)
    (case ki_Ratio_str => k_is)
    (case nf_Ratio_tuple => k_is)
    (case ki_Ratio_tuple => k_is)
    (case nf_Ratio_list => k_is)
    (case ki_Ratio_list => k_is)
    (case nf_Ratio_dict => k_is)
    (case ki_Ratio_dict => k_is)
    (case na_Ratio_top => k_is)
    (case na_Ratio_bottom => k_is)
    (case fn_Ratio_init => k_is)
    (case fn_Ratio_add => k_is)
    (case r_Ratio_add => k_is)
    (case h1_Ratio_add => k_is)
    (case h2_Ratio_add => k_is)
    (case fn_Ratio_sub => k_is)
    (case r_Ratio_sub => k_is)
    (case h1_Ratio_sub => k_is)
    (case h2_Ratio_sub => k_is)
    (case fn_Ratio_mul => k_is)
    (case r_Ratio_mul => k_is)
    (case h1_Ratio_mul => k_is)
    (case h2_Ratio_mul => k_is)
    (case fn_Ratio_eq => k_is)
    (case fn_Ratio_over => k_is)
    (case fn_Ratio_below => k_is)
    (case fn_Ratio_written => k_is)
