import PyProof.Rows.All
import Wide.All
import OpenK.AllK
import Wide.FinOn
import HandS.ForMost
import HandS.ForExc
import HandS.ExcInit
import HandS.ExcField
import HandS.IsInst
import HandS.Style
import HandS.Flt
import HandS.TupAny
import HandS.Wide
import HandS.Property
import HandS.Gcd
import HandS.Defaults
import HandS.MakeKw
import HandS.MakeKwOnly
import HandS.Small
import HandS.SlotsOwn
import KE.KOpsOwn
import KE.KExcIs
import HandS.Conv
import HandS.SortRule
import HandS.ExcIs
import HandS.ExcValue
import PyProof.ReprRoads
import HandS.Text
import HandS.StrMore
import PySem.Challenge.RW_widestkind_k01_exceptions_apart
set_option Elab.async false
set_option linter.all false
set_option maxRecDepth 100000
namespace U
open PySem PySem.Spec PyProof.Rows L2
/-- a module's name that holds a plain value or an object of the written part -/
def MgV (mg : Str → Option Value) (x : Str) (v : V) : Prop := ∃ u, mg x = some u ∧ RelV v u
theorem pe_con_ {X : Cx} {x : Str} {v : V} {pos : Pos} (h : MgV X.mg x v) (hg : Gl X x := by rfl) (hd : (x == ("__debug__" : Str)) = false := by decide) : PE X (.Name x pos) (tC v) := by
  obtain ⟨u, hm, r⟩ := h
  exact pe_glob hg hm r hd
/-- written texts in a tuple of the written part -/
theorem strsV (ss : List Str) (us : List Value) (h : Paired (fun (s : Str) (u : Value) => ∃ t, u = .str s t) ss us) : Vals (ss.map V.str) us := by
  induction h with
  | nil => exact .nil
  | cons a _ ih => exact .cons a ih
theorem exm_self {K : PySem.W.Frag} {S : Addr} (h1 : PySem.W.subIn K (.ref S) (.type "BaseException") = some true) (h2 : PySem.W.isClsIn K S = true) (h3 : PySem.W.typeIn K (.ref S) = some (.type "type")) (h4 : PySem.W.subIn K (.ref S) (.ref S) = some true) :
    PySem.W.exmOne K (.ref S) (.ref S) = some true := by
  have e1 : (PySem.W.subIn K (.ref S) (.type "BaseException") == some true) = true := by rw [h1] <;> rfl
  have e2 : ((PySem.W.clsIn K S).isSome && PySem.W.typeIn K (.ref S) == some (.type "type")) = true := by
    have h2' : (PySem.W.clsIn K S).isSome = true := h2
    rw [h2', h3] <;> rfl
  show (if (PySem.W.subIn K (.ref S) (.type "BaseException") == some true) = true then (if ((PySem.W.clsIn K S).isSome && PySem.W.typeIn K (.ref S) == some (.type "type")) = true then PySem.W.subIn K (.ref S) (.ref S) else none) else none) = some true
  rw [if_pos e1, if_pos e2]
  exact h4
section
variable {X : Cx} {K : PySem.W.Frag}
theorem kOr2 {X : Cx} {f : Value → Value → Sem Value} {r r' : R2} (h : OpR X f r) (e : r = r') : OpR X f r' := e ▸ h
def uAdd {X : Cx} := (op_add (X := X)).or (op_add_str.or op_cat)
def uMul {X : Cx} := op_mul (X := X)
def uLt {X : Cx} := (op_lt (X := X)).or op_lt_str
def uLe {X : Cx} := (op_le (X := X)).or op_le_str
def uGt {X : Cx} := (op_gt (X := X)).or op_gt_str
def uGe {X : Cx} := (op_ge (X := X)).or op_ge_str
def rEqU (K : PySem.W.Frag) : R2 := fun x y H Q => rEq x y H Q ∨ rEqD K x y H Q
def rNeU (K : PySem.W.Frag) : R2 := fun x y H Q => rNe x y H Q ∨ rNeD K x y H Q
theorem uEq (hK : X.K = K) (hu : X.A.units + 64 < cLine) : OpR X (compareOp .Eq) (rEqU K) := by
  subst hK
  exact (op_eq (X := X)).or (op_eqD hu)
theorem uNe (hK : X.K = K) (hu : X.A.units + 64 < cLine) : OpR X (compareOp .NotEq) (rNeU K) := by
  subst hK
  exact (op_ne (X := X)).or (op_neD hu)
def rInSg : R2 := fun x y H Q => ∃ (c : Nat) (z : Str), x = .str ⟨#[c]⟩ ∧ y = .str z ∧ Q (.bl (decide (c ∈ z.cps.toList))) H
def rNotInSg : R2 := fun x y H Q => ∃ (c : Nat) (z : Str), x = .str ⟨#[c]⟩ ∧ y = .str z ∧ Q (.bl (!decide (c ∈ z.cps.toList))) H
def rInU (K : PySem.W.Frag) : R2 := fun x y H Q => rInSg x y H Q ∨ rIn K false x y H Q
def rNotInU (K : PySem.W.Frag) : R2 := fun x y H Q => rNotInSg x y H Q ∨ rIn K true x y H Q
theorem uIn (hK : X.K = K) : OpR X (compareOp .In) (rInU K) := by
  subst hK
  exact (op_in_sign (X := X)).or op_in_seq
theorem uNotIn (hK : X.K = K) : OpR X (compareOp .NotIn) (rNotInU K) := by
  subst hK
  exact (op_notIn_sign (X := X)).or op_notIn_seq
def rSlU (K : PySem.W.Frag) : V → Option Int → Option Int → Hp → VK → Prop := fun x lo hi H Q => rSlS x lo hi H Q ∨ rSlL K x lo hi H Q
theorem uSl (hK : X.K = K) : SlR X (rSlU K) := by
  subst hK
  exact (sl_str (X := X)).or sl_list
def rLenU (K : PySem.W.Frag) : List V → Hp → VK → Prop := fun xs H Q => (∃ z, xs = [.str z] ∧ z.length ≤ sizeLine ∧ Q (.int z.length) H) ∨ ∃ p ys, xs = [.ref p] ∧ (SqL K H p ys ∨ SqT K H p ys) ∧ Q (.int ys.length) H
theorem uLen (hK : X.K = K) : CallR X (.builtin "len") (rLenU K) := by
  subst hK
  exact (call_len_str (X := X)).or call_len_seq
theorem uIx (hK : X.K = K) : IxR X (rIx K) := by
  subst hK
  exact ix_seq
theorem uSum (hK : X.K = K) (hc : X.calm = true) : CallR X (.builtin "sum") (rSum K) := by
  subst hK
  exact cr_sum hc
def call_max3 {X : Cx} (hc : X.calm = true) := call_max3Nu hc
end
theorem ifT {c A B : Prop} [Decidable c] (hc : c) (h : A) : if decide c = true then A else B := by
  rw [decide_eq_true hc, if_pos rfl]
  exact h
theorem ifF {c A B : Prop} [Decidable c] (hc : ¬ c) (h : B) : if decide c = true then A else B := by
  rw [decide_eq_false hc, if_neg Bool.false_ne_true]
  exact h
theorem ifB {c : Bool} {A B : Prop} (b : Bool) (hc : c = b) (h : if b = true then A else B) : if c = true then A else B := by
  rw [hc]
  exact h
theorem ifD {c A B : Prop} [Decidable c] (h1 : c → A) (h2 : ¬ c → B) : if decide c = true then A else B := by
  by_cases h : c
  · exact ifT h (h1 h)
  · exact ifF h (h2 h)
theorem ifBl {c : Bool} {A B : Prop} (h1 : c = true → A) (h2 : c = false → B) : if c = true then A else B := by
  cases c with
  | true => exact iteT (h1 rfl)
  | false => exact iteF (h2 rfl)
theorem le1 (a b : Nat) : (!decide ((⟨#[b]⟩ : Str).cps.toList < (⟨#[a]⟩ : Str).cps.toList)) = decide (a ≤ b) := by
  have e : ((⟨#[b]⟩ : Str).cps.toList < (⟨#[a]⟩ : Str).cps.toList) ↔ b < a := by
    show ([b] : List Nat) < [a] ↔ b < a
    rw [List.cons_lt_cons_iff]
    simp
  by_cases h : b < a
  · rw [decide_eq_true (e.mpr h), decide_eq_false (by omega)] <;> rfl
  · rw [decide_eq_false (fun q => h (e.mp q)), decide_eq_true (by omega)] <;> rfl
theorem sz {n : Nat} (h : n ≤ 100000) : n ≤ sizeLine := Nat.le_trans h (by decide)
theorem szl {n : Nat} (h : n < 100000) : n < sizeLine := Nat.lt_of_lt_of_le h (by decide)
theorem atN {α : Type} {xs : List α} {i : Int} {v : α} (j : Nat) (e : i = (j : Int)) (h : xs[j]? = some v) : atI xs i = some v := by
  rw [e]
  exact atI_nat h
theorem zlen (z : Str) : z.length = z.cps.toList.length := by simp [Str.length]
end U
namespace U
open PySem PySem.Spec PyProof.Rows L2
theorem same_new {H : Hp} {p : Addr} {o : HO} (h : H p = none) : Same H (upd H p o) := fun b u e => by
  rw [upd_ne (ne_of_none e h)]
  exact e
/-- all but what stands at p is as it was -/
def SameBut (p : Addr) (H H' : Hp) : Prop := ∀ b o, b ≠ p → H b = some o → H' b = some o
theorem SameBut.refl (p : Addr) (H : Hp) : SameBut p H H := fun _ _ _ h => h
theorem SameBut.trans {p : Addr} {H H1 H2 : Hp} (a : SameBut p H H1) (b : SameBut p H1 H2) : SameBut p H H2 := fun c o n h => b c o n (a c o n h)
theorem SameBut.of {p : Addr} {H H' : Hp} (a : Same H H') : SameBut p H H' := fun c o _ h => a c o h
theorem SameBut.upd {p : Addr} {H H' : Hp} {o : HO} (a : SameBut p H H') : SameBut p H (upd H' p o) := fun c u n h => by
  rw [upd_ne n]
  exact a c u n h
theorem Same.but {p : Addr} {H H1 H2 : Hp} (a : Same H H1) (b : SameBut p H1 H2) (hp : H p = none) : Same H H2 := fun c o h => b c o (ne_of_none h hp) (a c o h)
theorem SameBut.free {p l : Addr} {H H' : Hp} (a : SameBut p H H') (n : l ≠ p) (h : H' l = none) : H l = none := by
  cases q : H l with
  | none => rfl
  | some o =>
    rw [a l o n q] at h
    cases h
/-- a box of draws: three whole numbers -/
def BoxAt (H : Hp) (p : Addr) (n : Nat) : Prop := ∃ b0 b1 b2 : Int, H p = some (.lst [.int b0, .int b1, .int b2]) ∧ 0 ≤ b0 ∧ 0 ≤ b1 ∧ b1 < 2147483648 ∧ 0 ≤ b2 ∧ b2 ≤ n
theorem BoxAt.some {H : Hp} {p : Addr} {n : Nat} (b : BoxAt H p n) : ∃ o, H p = some o := by
  obtain ⟨b0, b1, b2, h, _⟩ := b
  exact ⟨_, h⟩
theorem BoxAt.mono {H : Hp} {p : Addr} {n m : Nat} (b : BoxAt H p n) (h : n ≤ m) : BoxAt H p m := by
  obtain ⟨b0, b1, b2, e, h0, h1, h2, h3, h4⟩ := b
  exact ⟨b0, b1, b2, e, h0, h1, h2, h3, by omega⟩
theorem BoxAt.same {H H' : Hp} {p : Addr} {n : Nat} (b : BoxAt H p n) (s : Same H H') : BoxAt H' p n := by
  obtain ⟨b0, b1, b2, e, h⟩ := b
  exact ⟨b0, b1, b2, s _ _ e, h⟩
/-- _law_take: one draw -/
def spTake : Sp := fun vs H Q _ => ∃ (p : Addr) (m : Int) (n : Nat), vs = [.ref p, .int m] ∧ BoxAt H p n ∧ n ≤ 100000 ∧ 0 < m ∧ m < 1073741824 ∧ ∀ (d : Int) (H' : Hp), 0 ≤ d → d < m → BoxAt H' p (n + 1) → SameBut p H H' → Q (.int d) H'
def spBox : Sp := fun vs H Q _ => ∃ (c : Int), vs = [.int c] ∧ ∀ (p : Addr) (H' : Hp), H p = none → BoxAt H' p 0 → Same H H' → Q (.ref p) H'
def spCell (K : PySem.W.Frag) : Sp := fun vs H Q _ => ∃ (a : Addr) (ns : List Int) (k : Int), vs = [.ref a, .int k] ∧ SqL K H a (ns.map V.int) ∧ ns.length ≤ 63 ∧ 0 ≤ k ∧ k ≤ 1000 ∧ ∀ (c : Int) (H' : Hp), Same H H' → Q (.int c) H'
theorem cut_map (ns : List Int) (lo hi : Option Int) : ∃ ms : List Int, cutV (ns.map V.int) lo hi = ms.map V.int := by
  refine ⟨(ns.drop (HT.sIx (ns.map V.int).length 0 lo)).take (HT.sIx (ns.map V.int).length (ns.map V.int).length hi - HT.sIx (ns.map V.int).length 0 lo), ?_⟩
  unfold cutV
  rw [List.map_take, List.map_drop]
theorem lst_ix0 {x y z : V} : ([x, y, z] : List V)[0]? = some x := rfl
end U
namespace U
open PySem PySem.Spec PyProof.Rows L2
theorem ifDi {a b : Int} {A B : Prop} (h1 : a = b → A) (h2 : ¬ a = b → B) : if decide (V.int a = V.int b) = true then A else B :=
  ifD (fun h => h1 (V.int.inj h)) (fun h => h2 (fun e => h (congrArg V.int e)))
theorem ifDs {a b : Str} {A B : Prop} (h1 : a = b → A) (h2 : ¬ a = b → B) : if decide (V.str a = V.str b) = true then A else B :=
  ifD (fun h => h1 (V.str.inj h)) (fun h => h2 (fun e => h (congrArg V.str e)))
theorem ifDbi {a b : Int} {A B : Prop} (h1 : ¬ a = b → A) (h2 : a = b → B) : if (!decide (V.int a = V.int b)) = true then A else B := by
  by_cases h : a = b
  · rw [decide_eq_true (congrArg V.int h)]
    exact iteF (h2 h)
  · rw [decide_eq_false (fun q => h (V.int.inj q))]
    exact iteT (h1 h)
theorem ifTi {a b : Int} {A B : Prop} (hc : a = b) (h : A) : if decide (V.int a = V.int b) = true then A else B := ifT (congrArg V.int hc) h
theorem ifFi {a b : Int} {A B : Prop} (hc : ¬ a = b) (h : B) : if decide (V.int a = V.int b) = true then A else B := ifF (fun e => hc (V.int.inj e)) h
end U
namespace U
open PySem PySem.Spec PyProof.Rows L2
theorem forR1 {n : Int} {g : TG} {tb : TS} {D : Ends} {σ : L2.St} {H : Hp} (hn : 0 ≤ n ∧ n ≤ 100000) (Pv : Nat → L2.St → Hp → Prop) (h0 : Pv 0 σ H)
    (hs : ∀ (i : Nat) σ H, (i : Int) < n → Pv i σ H → g (.int (i : Int)) σ H fun σ2 H2 => tb { D with nx := Pv (i + 1), ct := Pv (i + 1), bk := D.nx } σ2 H2) (hd : ∀ σ H, Pv n.toNat σ H → D.nx σ H) :
    ∃ j : Int, [V.int n] = [V.int j] ∧ -(2 ^ 62) ≤ j ∧ j < 2 ^ 62 ∧ ∃ W : Nat → Nat → L2.St → Hp → Prop, (∃ m, W 0 m σ H) ∧ ∀ i m σ H, W i m σ H →
      ((Itr 0 j.toNat).stop i H ∧ D.nx σ H) ∨ ((Itr 0 j.toNat).go i H ∧ ∃ N : L2.St → Hp → Prop, (∀ σ' H', N σ' H' → ∃ m', m' < m ∧ W (i + 1) m' σ' H') ∧ ∀ x H', (Itr 0 j.toNat).yld i H x H' → g x σ H' fun σ2 H2 => tb { D with nx := N, ct := N, bk := D.nx } σ2 H2) :=
  ⟨n, rfl, by omega, by omega, for_range (lo := 0) (n := n.toNat) Pv h0 (fun i σ H hi p => by
    have e0 : (0 : Int) + (i : Int) = (i : Int) := Int.zero_add _
    rw [e0]
    exact hs i σ H (by omega) p) hd⟩
/-- a comprehension over the signs of a text -/
theorem lcStr {z : Str} {g : TG} {tt : TT} {te : TE} {vs : List Nat} {σ : L2.St} {H1 : Hp} {D : Addr} {Qd : Hp → Prop} (Pv : Nat → Hp → Prop) (h0 : Pv 0 (upd H1 D (.lst [])))
    (hs : ∀ i c H, z.cps.toList[i]? = some c → Pv i H → g (.str ⟨#[c]⟩) (wipe σ vs) H fun σ2 H2 => wipe σ2 vs = wipe σ vs ∧ tt σ2 H2 fun b H3 =>
      if b = true then te σ2 H3 fun y H4 => ∃ acc, H4 D = some (.lst acc) ∧ acc.length < sizeLine ∧ Pv (i + 1) (upd H4 D (.lst (acc ++ [y]))) else Pv (i + 1) H3) (hd : ∀ H, Pv z.length H → Qd H) :
    ∃ W : Nat → Nat → Hp → Prop, (∃ m, W 0 m (upd H1 D (.lst []))) ∧ ∀ i m H, W i m H →
      ((Its z).stop i H ∧ Qd H) ∨ ((Its z).go i H ∧ ∃ Nx : Hp → Prop, (∀ H', Nx H' → ∃ m', m' < m ∧ W (i + 1) m' H') ∧ ∀ x H', (Its z).yld i H x H' → g x (wipe σ vs) H' fun σ2 H2 => wipe σ2 vs = wipe σ vs ∧ tt σ2 H2 fun b H3 =>
        if b = true then te σ2 H3 fun y H4 => ∃ acc, H4 D = some (.lst acc) ∧ acc.length < sizeLine ∧ Nx (upd H4 D (.lst (acc ++ [y]))) else Nx H3) := by
  refine ⟨fun i m H => i + m = z.length ∧ Pv i H, ⟨z.length, Nat.zero_add _, h0⟩, ?_⟩
  rintro i m H ⟨hm, p⟩
  by_cases hi : i < z.length
  · refine Or.inr ⟨hi, Pv (i + 1), fun H' q => ⟨m - 1, by omega, by omega, q⟩, ?_⟩
    rintro x H' ⟨rfl, c, hc, rfl⟩
    refine hs i c H' ?_ p
    rw [← hc]
    simp
  · refine Or.inl ⟨Nat.le_of_not_lt hi, hd H ?_⟩
    rw [show z.length = i by omega]
    exact p
/-- written texts as data -/
def strD (ss : List Str) : List PyData := ss.map .str
theorem dpStrs {K : PySem.W.Frag} {H : Hp} : ∀ ss : List Str, DpAll K H (ss.map V.str) (strD ss)
  | [] => .nil
  | s :: r => .cons (.str s) (dpStrs r)
theorem canStrs : ∀ ss : List Str, (∀ s ∈ ss, PyData.strOk s = true) → PyData.canLayAll0 (strD ss) = true
  | [], _ => rfl
  | s :: r, h => by
    show (PyData.strOk s && PyData.canLayAll0 (strD r)) = true
    rw [h s (List.mem_cons_self ..), canStrs r fun t ht => h t (List.mem_cons_of_mem _ ht)] <;> rfl
theorem depthStrs : ∀ ss : List Str, PyData.depthAll (strD ss) = 0
  | [] => rfl
  | s :: r => by
    show max 0 (PyData.depthAll (strD r)) = 0
    rw [depthStrs r] <;> rfl
theorem shStrs (ss : List Str) (h : ∀ s ∈ ss, PyData.strOk s = true) : SeqAt.shaped (.list (strD ss)) = true := by
  show (PyData.canLayAll0 (strD ss) && decide (PyData.depthAll (strD ss) + 1 ≤ 64)) = true
  rw [canStrs ss h, depthStrs] <;> rfl
end U
namespace U
open PySem PySem.Spec PyProof.Rows L2
theorem newF {H H1 : Hp} {p : Addr} {o : HO} (np : H p = none) (h : upd H p o = H1) : Same H H1 ∧ H1 p = some o := by
  subst h
  exact ⟨same_new np, upd_same⟩
theorem updF {H H1 : Hp} {p : Addr} {o : HO} (h : upd H p o = H1) : H1 p = some o ∧ SameBut p H H1 := by
  subst h
  exact ⟨upd_same, (SameBut.refl _ _).upd⟩
theorem atI_words {ss : List Str} {d : Int} {v : V} (h : atI (ss.map V.str) d = some v) (xs : List V) (e : xs = ss.map V.str) : atI xs d = some v := by
  rw [e]
  exact h
end U
namespace U
open PySem PySem.Spec PyProof.Rows L2
theorem forR {n : Nat} {g : TG} {tb : TS} {D : Ends} {σ : L2.St} {H : Hp} (Pv : Nat → L2.St → Hp → Prop) (h0 : Pv 0 σ H)
    (hs : ∀ (i : Nat) σ H, i < n → Pv i σ H → g (.int (i : Int)) σ H fun σ2 H2 => tb { D with nx := Pv (i + 1), ct := Pv (i + 1), bk := D.nx } σ2 H2) (hd : ∀ σ H, Pv n σ H → D.nx σ H) :
    ∃ W : Nat → Nat → L2.St → Hp → Prop, (∃ m, W 0 m σ H) ∧ ∀ i m σ H, W i m σ H →
      ((Itr 0 n).stop i H ∧ D.nx σ H) ∨ ((Itr 0 n).go i H ∧ ∃ N : L2.St → Hp → Prop, (∀ σ' H', N σ' H' → ∃ m', m' < m ∧ W (i + 1) m' σ' H') ∧ ∀ x H', (Itr 0 n).yld i H x H' → g x σ H' fun σ2 H2 => tb { D with nx := N, ct := N, bk := D.nx } σ2 H2) :=
  for_range (lo := 0) (n := n) Pv h0 (fun i σ H hi p => by
    have e0 : (0 : Int) + (i : Int) = (i : Int) := Int.zero_add _
    rw [e0]
    exact hs i σ H hi p) hd
end U
namespace Toy
open PySem L2
--@DSET _law_right
--@EXCV
--@GUARD _law_right
--@GUARD _law_same
--@GUARD law
--@ISI (call_isU)
--@NDO KindError,BadText,Twice,BadName,BadFilling,BadLine,Unknown,BadMacro,BadTree,BadPlace,BadKnot,BadKind,BadForm,BadDeeds,BadWeight,BadUnits,BadBudget,BadStep,TooMany,NoSuch,ByZero,NoKind,NothingToUndo,NothingToRedo
--@REPR (call_shw hG hr.units)
def top (i : Nat) : Stmt := PySem.Challenge.pw_widestkind_k01_exceptions_apart.main.body.getD i (.Pass ⟨0, 0, 0, 0⟩)
abbrev s_BadText_init : Stmt := inClass (top 3) 0
abbrev nm_BadText_init : List Str := ["self", "at"]
theorem sc_BadText_init : FnScope nm_BadText_init ["self", "at"] (defScope s_BadText_init) := ⟨rfl, rfl, rfl, by decide +kernel, rfl, by decide +kernel, by decide +kernel⟩
abbrev s_Twice_init : Stmt := inClass (top 4) 0
abbrev nm_Twice_init : List Str := ["self", "name"]
theorem sc_Twice_init : FnScope nm_Twice_init ["self", "name"] (defScope s_Twice_init) := ⟨rfl, rfl, rfl, by decide +kernel, rfl, by decide +kernel, by decide +kernel⟩
abbrev s_BadName_init : Stmt := inClass (top 5) 0
abbrev nm_BadName_init : List Str := ["self", "name"]
theorem sc_BadName_init : FnScope nm_BadName_init ["self", "name"] (defScope s_BadName_init) := ⟨rfl, rfl, rfl, by decide +kernel, rfl, by decide +kernel, by decide +kernel⟩
abbrev s_BadFilling_init : Stmt := inClass (top 6) 0
abbrev nm_BadFilling_init : List Str := ["self", "name"]
theorem sc_BadFilling_init : FnScope nm_BadFilling_init ["self", "name"] (defScope s_BadFilling_init) := ⟨rfl, rfl, rfl, by decide +kernel, rfl, by decide +kernel, by decide +kernel⟩
abbrev s_BadLine_init : Stmt := inClass (top 7) 0
abbrev nm_BadLine_init : List Str := ["self", "number"]
theorem sc_BadLine_init : FnScope nm_BadLine_init ["self", "number"] (defScope s_BadLine_init) := ⟨rfl, rfl, rfl, by decide +kernel, rfl, by decide +kernel, by decide +kernel⟩
abbrev s_Unknown_init : Stmt := inClass (top 8) 0
abbrev nm_Unknown_init : List Str := ["self", "name"]
theorem sc_Unknown_init : FnScope nm_Unknown_init ["self", "name"] (defScope s_Unknown_init) := ⟨rfl, rfl, rfl, by decide +kernel, rfl, by decide +kernel, by decide +kernel⟩
abbrev s_BadMacro_init : Stmt := inClass (top 9) 0
abbrev nm_BadMacro_init : List Str := ["self", "name"]
theorem sc_BadMacro_init : FnScope nm_BadMacro_init ["self", "name"] (defScope s_BadMacro_init) := ⟨rfl, rfl, rfl, by decide +kernel, rfl, by decide +kernel, by decide +kernel⟩
abbrev s_BadTree_init : Stmt := inClass (top 10) 0
abbrev nm_BadTree_init : List Str := ["self", "given"]
theorem sc_BadTree_init : FnScope nm_BadTree_init ["self", "given"] (defScope s_BadTree_init) := ⟨rfl, rfl, rfl, by decide +kernel, rfl, by decide +kernel, by decide +kernel⟩
abbrev s_BadPlace_init : Stmt := inClass (top 11) 0
abbrev nm_BadPlace_init : List Str := ["self", "given"]
theorem sc_BadPlace_init : FnScope nm_BadPlace_init ["self", "given"] (defScope s_BadPlace_init) := ⟨rfl, rfl, rfl, by decide +kernel, rfl, by decide +kernel, by decide +kernel⟩
abbrev s_BadKnot_init : Stmt := inClass (top 12) 0
abbrev nm_BadKnot_init : List Str := ["self", "given"]
theorem sc_BadKnot_init : FnScope nm_BadKnot_init ["self", "given"] (defScope s_BadKnot_init) := ⟨rfl, rfl, rfl, by decide +kernel, rfl, by decide +kernel, by decide +kernel⟩
abbrev s_BadKind_init : Stmt := inClass (top 14) 0
abbrev nm_BadKind_init : List Str := ["self", "given"]
theorem sc_BadKind_init : FnScope nm_BadKind_init ["self", "given"] (defScope s_BadKind_init) := ⟨rfl, rfl, rfl, by decide +kernel, rfl, by decide +kernel, by decide +kernel⟩
abbrev s_BadForm_init : Stmt := inClass (top 15) 0
abbrev nm_BadForm_init : List Str := ["self", "number"]
theorem sc_BadForm_init : FnScope nm_BadForm_init ["self", "number"] (defScope s_BadForm_init) := ⟨rfl, rfl, rfl, by decide +kernel, rfl, by decide +kernel, by decide +kernel⟩
abbrev s_BadDeeds_init : Stmt := inClass (top 16) 0
abbrev nm_BadDeeds_init : List Str := ["self", "given"]
theorem sc_BadDeeds_init : FnScope nm_BadDeeds_init ["self", "given"] (defScope s_BadDeeds_init) := ⟨rfl, rfl, rfl, by decide +kernel, rfl, by decide +kernel, by decide +kernel⟩
abbrev s_BadWeight_init : Stmt := inClass (top 17) 0
abbrev nm_BadWeight_init : List Str := ["self", "given"]
theorem sc_BadWeight_init : FnScope nm_BadWeight_init ["self", "given"] (defScope s_BadWeight_init) := ⟨rfl, rfl, rfl, by decide +kernel, rfl, by decide +kernel, by decide +kernel⟩
abbrev s_BadUnits_init : Stmt := inClass (top 18) 0
abbrev nm_BadUnits_init : List Str := ["self", "given"]
theorem sc_BadUnits_init : FnScope nm_BadUnits_init ["self", "given"] (defScope s_BadUnits_init) := ⟨rfl, rfl, rfl, by decide +kernel, rfl, by decide +kernel, by decide +kernel⟩
abbrev s_BadBudget_init : Stmt := inClass (top 19) 0
abbrev nm_BadBudget_init : List Str := ["self", "given"]
theorem sc_BadBudget_init : FnScope nm_BadBudget_init ["self", "given"] (defScope s_BadBudget_init) := ⟨rfl, rfl, rfl, by decide +kernel, rfl, by decide +kernel, by decide +kernel⟩
abbrev s_BadStep_init : Stmt := inClass (top 20) 0
abbrev nm_BadStep_init : List Str := ["self", "given"]
theorem sc_BadStep_init : FnScope nm_BadStep_init ["self", "given"] (defScope s_BadStep_init) := ⟨rfl, rfl, rfl, by decide +kernel, rfl, by decide +kernel, by decide +kernel⟩
abbrev s_TooMany_init : Stmt := inClass (top 21) 0
abbrev nm_TooMany_init : List Str := ["self", "count"]
theorem sc_TooMany_init : FnScope nm_TooMany_init ["self", "count"] (defScope s_TooMany_init) := ⟨rfl, rfl, rfl, by decide +kernel, rfl, by decide +kernel, by decide +kernel⟩
abbrev s_NoSuch_init : Stmt := inClass (top 22) 0
abbrev nm_NoSuch_init : List Str := ["self", "name"]
theorem sc_NoSuch_init : FnScope nm_NoSuch_init ["self", "name"] (defScope s_NoSuch_init) := ⟨rfl, rfl, rfl, by decide +kernel, rfl, by decide +kernel, by decide +kernel⟩
abbrev s_law_cell : Stmt := top 26
abbrev nm_law_cell : List Str := ["script", "k"]
theorem sc_law_cell : FnScope nm_law_cell ["script", "k"] (defScope s_law_cell) := ⟨rfl, rfl, rfl, by decide +kernel, rfl, by decide +kernel, by decide +kernel⟩
abbrev s_law_box : Stmt := top 27
abbrev nm_law_box : List Str := ["cell"]
theorem sc_law_box : FnScope nm_law_box ["cell"] (defScope s_law_box) := ⟨rfl, rfl, rfl, by decide +kernel, rfl, by decide +kernel, by decide +kernel⟩
abbrev s_law_take : Stmt := top 28
abbrev nm_law_take : List Str := ["box", "many", "digit", "number"]
theorem sc_law_take : FnScope nm_law_take ["box", "many"] (defScope s_law_take) := ⟨rfl, rfl, rfl, by decide +kernel, rfl, by decide +kernel, by decide +kernel⟩
abbrev s_law_mixed : Stmt := top 29
abbrev nm_law_mixed : List Str := ["box", "some", "left", "k"]
theorem sc_law_mixed : FnScope nm_law_mixed ["box", "some"] (defScope s_law_mixed) := ⟨rfl, rfl, rfl, by decide +kernel, rfl, by decide +kernel, by decide +kernel⟩
abbrev s_law_value : Stmt := top 30
abbrev nm_law_value : List Str := ["box", "number", "some"]
theorem sc_law_value : FnScope nm_law_value ["box"] (defScope s_law_value) := ⟨rfl, rfl, rfl, by decide +kernel, rfl, by decide +kernel, by decide +kernel⟩
abbrev s_law_made : Stmt := top 31
abbrev nm_law_made : List Str := ["way", "value", "some"]
theorem sc_law_made : FnScope nm_law_made ["way", "value"] (defScope s_law_made) := ⟨rfl, rfl, rfl, by decide +kernel, rfl, by decide +kernel, by decide +kernel⟩
abbrev s_law_field : Stmt := top 32
abbrev nm_law_field : List Str := ["way", "e"]
theorem sc_law_field : FnScope nm_law_field ["way", "e"] (defScope s_law_field) := ⟨rfl, rfl, rfl, by decide +kernel, rfl, by decide +kernel, by decide +kernel⟩
abbrev s_law_classes : Stmt := top 33
abbrev nm_law_classes : List Str := ["e", "found"]
theorem sc_law_classes : FnScope nm_law_classes ["e"] (defScope s_law_classes) := ⟨rfl, rfl, rfl, by decide +kernel, rfl, by decide +kernel, by decide +kernel⟩
abbrev s_law_same : Stmt := top 34
abbrev nm_law_same : List Str := ["one", "other"]
theorem sc_law_same : FnScope nm_law_same ["one", "other"] (defScope s_law_same) := ⟨rfl, rfl, rfl, by decide +kernel, rfl, by decide +kernel, by decide +kernel⟩
abbrev s_law_right : Stmt := top 35
abbrev nm_law_right : List Str := ["box", "way", "value", "e", "turn", "k"]
theorem sc_law_right : FnScope nm_law_right ["box", "way"] (defScope s_law_right) := ⟨rfl, rfl, rfl, by decide +kernel, rfl, by decide +kernel, by decide +kernel⟩
abbrev s_law : Stmt := top 36
abbrev nm_law : List Str := ["script", "k", "box", "way"]
theorem sc_law : FnScope nm_law ["script"] (defScope s_law) := ⟨rfl, rfl, rfl, by decide +kernel, rfl, by decide +kernel, by decide +kernel⟩
structure Ad where
  (a_BadText_init a_Twice_init a_BadName_init a_BadFilling_init a_BadLine_init a_Unknown_init a_BadMacro_init a_BadTree_init a_BadPlace_init a_BadKnot_init a_BadKind_init a_BadForm_init a_BadDeeds_init a_BadWeight_init a_BadUnits_init a_BadBudget_init a_BadStep_init a_TooMany_init a_NoSuch_init a_law_cell a_law_box a_law_take a_law_mixed a_law_value a_law_made a_law_field a_law_classes a_law_same a_law_right a_law : Addr)
  (fd_BadText_init fd_Twice_init fd_BadName_init fd_BadFilling_init fd_BadLine_init fd_Unknown_init fd_BadMacro_init fd_BadTree_init fd_BadPlace_init fd_BadKnot_init fd_BadKind_init fd_BadForm_init fd_BadDeeds_init fd_BadWeight_init fd_BadUnits_init fd_BadBudget_init fd_BadStep_init fd_TooMany_init fd_NoSuch_init fd_law_cell fd_law_box fd_law_take fd_law_mixed fd_law_value fd_law_made fd_law_field fd_law_classes fd_law_same fd_law_right fd_law : FuncData)
  (c_KindError c_ByZero c_BadText c_Twice c_BadName c_BadFilling c_BadLine c_Unknown c_BadMacro c_BadTree c_BadPlace c_BadKnot c_NoKind c_BadKind c_BadForm c_BadDeeds c_BadWeight c_BadUnits c_BadBudget c_BadStep c_TooMany c_NoSuch c_NothingToUndo c_NothingToRedo : Addr)
structure Top (K : PySem.W.Frag) (mg : Str → Option Value) (A : Ad) : Prop where
  F_BadText_init : Fun K "__init__" "BadText.__init__" s_BadText_init A.a_BadText_init A.fd_BadText_init
  b_BadText_init : Binds K A.fd_BadText_init ["self", "at"] []
  F_Twice_init : Fun K "__init__" "Twice.__init__" s_Twice_init A.a_Twice_init A.fd_Twice_init
  b_Twice_init : Binds K A.fd_Twice_init ["self", "name"] []
  F_BadName_init : Fun K "__init__" "BadName.__init__" s_BadName_init A.a_BadName_init A.fd_BadName_init
  b_BadName_init : Binds K A.fd_BadName_init ["self", "name"] []
  F_BadFilling_init : Fun K "__init__" "BadFilling.__init__" s_BadFilling_init A.a_BadFilling_init A.fd_BadFilling_init
  b_BadFilling_init : Binds K A.fd_BadFilling_init ["self", "name"] []
  F_BadLine_init : Fun K "__init__" "BadLine.__init__" s_BadLine_init A.a_BadLine_init A.fd_BadLine_init
  b_BadLine_init : Binds K A.fd_BadLine_init ["self", "number"] []
  F_Unknown_init : Fun K "__init__" "Unknown.__init__" s_Unknown_init A.a_Unknown_init A.fd_Unknown_init
  b_Unknown_init : Binds K A.fd_Unknown_init ["self", "name"] []
  F_BadMacro_init : Fun K "__init__" "BadMacro.__init__" s_BadMacro_init A.a_BadMacro_init A.fd_BadMacro_init
  b_BadMacro_init : Binds K A.fd_BadMacro_init ["self", "name"] []
  F_BadTree_init : Fun K "__init__" "BadTree.__init__" s_BadTree_init A.a_BadTree_init A.fd_BadTree_init
  b_BadTree_init : Binds K A.fd_BadTree_init ["self", "given"] []
  F_BadPlace_init : Fun K "__init__" "BadPlace.__init__" s_BadPlace_init A.a_BadPlace_init A.fd_BadPlace_init
  b_BadPlace_init : Binds K A.fd_BadPlace_init ["self", "given"] []
  F_BadKnot_init : Fun K "__init__" "BadKnot.__init__" s_BadKnot_init A.a_BadKnot_init A.fd_BadKnot_init
  b_BadKnot_init : Binds K A.fd_BadKnot_init ["self", "given"] []
  F_BadKind_init : Fun K "__init__" "BadKind.__init__" s_BadKind_init A.a_BadKind_init A.fd_BadKind_init
  b_BadKind_init : Binds K A.fd_BadKind_init ["self", "given"] []
  F_BadForm_init : Fun K "__init__" "BadForm.__init__" s_BadForm_init A.a_BadForm_init A.fd_BadForm_init
  b_BadForm_init : Binds K A.fd_BadForm_init ["self", "number"] []
  F_BadDeeds_init : Fun K "__init__" "BadDeeds.__init__" s_BadDeeds_init A.a_BadDeeds_init A.fd_BadDeeds_init
  b_BadDeeds_init : Binds K A.fd_BadDeeds_init ["self", "given"] []
  F_BadWeight_init : Fun K "__init__" "BadWeight.__init__" s_BadWeight_init A.a_BadWeight_init A.fd_BadWeight_init
  b_BadWeight_init : Binds K A.fd_BadWeight_init ["self", "given"] []
  F_BadUnits_init : Fun K "__init__" "BadUnits.__init__" s_BadUnits_init A.a_BadUnits_init A.fd_BadUnits_init
  b_BadUnits_init : Binds K A.fd_BadUnits_init ["self", "given"] []
  F_BadBudget_init : Fun K "__init__" "BadBudget.__init__" s_BadBudget_init A.a_BadBudget_init A.fd_BadBudget_init
  b_BadBudget_init : Binds K A.fd_BadBudget_init ["self", "given"] []
  F_BadStep_init : Fun K "__init__" "BadStep.__init__" s_BadStep_init A.a_BadStep_init A.fd_BadStep_init
  b_BadStep_init : Binds K A.fd_BadStep_init ["self", "given"] []
  F_TooMany_init : Fun K "__init__" "TooMany.__init__" s_TooMany_init A.a_TooMany_init A.fd_TooMany_init
  b_TooMany_init : Binds K A.fd_TooMany_init ["self", "count"] []
  F_NoSuch_init : Fun K "__init__" "NoSuch.__init__" s_NoSuch_init A.a_NoSuch_init A.fd_NoSuch_init
  b_NoSuch_init : Binds K A.fd_NoSuch_init ["self", "name"] []
  F_law_cell : Fun K "_law_cell" "_law_cell" s_law_cell A.a_law_cell A.fd_law_cell
  b_law_cell : Binds K A.fd_law_cell ["script", "k"] []
  m_law_cell : mg "_law_cell" = some (.ref A.a_law_cell)
  F_law_box : Fun K "_law_box" "_law_box" s_law_box A.a_law_box A.fd_law_box
  b_law_box : Binds K A.fd_law_box ["cell"] []
  m_law_box : mg "_law_box" = some (.ref A.a_law_box)
  F_law_take : Fun K "_law_take" "_law_take" s_law_take A.a_law_take A.fd_law_take
  b_law_take : Binds K A.fd_law_take ["box", "many"] []
  m_law_take : mg "_law_take" = some (.ref A.a_law_take)
  F_law_mixed : Fun K "_law_mixed" "_law_mixed" s_law_mixed A.a_law_mixed A.fd_law_mixed
  b_law_mixed : Binds K A.fd_law_mixed ["box", "some"] []
  m_law_mixed : mg "_law_mixed" = some (.ref A.a_law_mixed)
  F_law_value : Fun K "_law_value" "_law_value" s_law_value A.a_law_value A.fd_law_value
  b_law_value : Binds K A.fd_law_value ["box"] []
  m_law_value : mg "_law_value" = some (.ref A.a_law_value)
  F_law_made : Fun K "_law_made" "_law_made" s_law_made A.a_law_made A.fd_law_made
  b_law_made : Binds K A.fd_law_made ["way", "value"] []
  m_law_made : mg "_law_made" = some (.ref A.a_law_made)
  F_law_field : Fun K "_law_field" "_law_field" s_law_field A.a_law_field A.fd_law_field
  b_law_field : Binds K A.fd_law_field ["way", "e"] []
  m_law_field : mg "_law_field" = some (.ref A.a_law_field)
  F_law_classes : Fun K "_law_classes" "_law_classes" s_law_classes A.a_law_classes A.fd_law_classes
  b_law_classes : Binds K A.fd_law_classes ["e"] []
  m_law_classes : mg "_law_classes" = some (.ref A.a_law_classes)
  F_law_same : Fun K "_law_same" "_law_same" s_law_same A.a_law_same A.fd_law_same
  b_law_same : Binds K A.fd_law_same ["one", "other"] []
  m_law_same : mg "_law_same" = some (.ref A.a_law_same)
  F_law_right : Fun K "_law_right" "_law_right" s_law_right A.a_law_right A.fd_law_right
  b_law_right : Binds K A.fd_law_right ["box", "way"] []
  m_law_right : mg "_law_right" = some (.ref A.a_law_right)
  F_law : Fun K "law" "law" s_law A.a_law A.fd_law
  b_law : Binds K A.fd_law ["script"] []
  m_law : mg "law" = some (.ref A.a_law)
  n_ValueError : mg "ValueError" = none
  n_abs : mg "abs" = none
  n_dict : mg "dict" = none
  n_isinstance : mg "isinstance" = none
  n_len : mg "len" = none
  n_list : mg "list" = none
  n_max : mg "max" = none
  n_min : mg "min" = none
  n_range : mg "range" = none
  n_repr : mg "repr" = none
  n_str : mg "str" = none
  n_sum : mg "sum" = none
  m_KindError : mg "KindError" = some (.ref A.c_KindError)
  x_KindError : PySem.W.excIn K A.c_KindError [.type "ValueError", .type "Exception", .type "BaseException", .type "object"] "ValueError.__new__" = true
  k_KindError : PySem.W.keepIn K (.ref A.c_KindError) = true
  b_KindError : PySem.W.subIn K (.ref A.c_KindError) (.type "BaseException") = some true
  t_KindError : PySem.W.typeIn K (.ref A.c_KindError) = some (.type "type")
  te_KindError : PySem.W.exmOne K (.ref A.c_KindError) (.ref A.c_KindError) = some true
  cl_KindError : ∃ cd, PySem.W.clsIn K A.c_KindError = some cd ∧ cd.mro = .ref A.c_KindError :: [.type "ValueError", .type "Exception", .type "BaseException", .type "object"]
  ty_KindError : PySem.W.typeIn K (.ref A.c_KindError) = some (.type "type")
  m_ByZero : mg "ByZero" = some (.ref A.c_ByZero)
  x_ByZero : PySem.W.excIn K A.c_ByZero [.type "ValueError", .type "Exception", .type "BaseException", .type "object"] "ValueError.__new__" = true
  k_ByZero : PySem.W.keepIn K (.ref A.c_ByZero) = true
  b_ByZero : PySem.W.subIn K (.ref A.c_ByZero) (.type "BaseException") = some true
  t_ByZero : PySem.W.typeIn K (.ref A.c_ByZero) = some (.type "type")
  te_ByZero : PySem.W.exmOne K (.ref A.c_ByZero) (.ref A.c_ByZero) = some true
  cl_ByZero : ∃ cd, PySem.W.clsIn K A.c_ByZero = some cd ∧ cd.mro = .ref A.c_ByZero :: [.ref A.c_KindError, .type "ValueError", .type "Exception", .type "BaseException", .type "object"]
  ty_ByZero : PySem.W.typeIn K (.ref A.c_ByZero) = some (.type "type")
  ec_ByZero : ExcC K A.c_ByZero
  m_BadText : mg "BadText" = some (.ref A.c_BadText)
  cl_BadText : ∃ cd, PySem.W.clsIn K A.c_BadText = some cd ∧ cd.mro = .ref A.c_BadText :: [.ref A.c_KindError, .type "ValueError", .type "Exception", .type "BaseException", .type "object"]
  ty_BadText : PySem.W.typeIn K (.ref A.c_BadText) = some (.type "type")
  ec_BadText : ExcC K A.c_BadText
  ox_BadText : OexC K A.c_BadText
  xf_BadText : XfC K A.c_BadText
  te_BadText : PySem.W.exmOne K (.ref A.c_BadText) (.ref A.c_BadText) = some true
  i_BadText : PySem.W.findIn K (.ref A.c_BadText) "__init__" = some (some (.ref A.a_BadText_init))
  t_BadText : PySem.W.typeIn K (.ref A.a_BadText_init) = some (.type "function")
  no_BadText_at : PySem.W.findIn K (.ref A.c_BadText) "at" = some none
  m_Twice : mg "Twice" = some (.ref A.c_Twice)
  cl_Twice : ∃ cd, PySem.W.clsIn K A.c_Twice = some cd ∧ cd.mro = .ref A.c_Twice :: [.ref A.c_KindError, .type "ValueError", .type "Exception", .type "BaseException", .type "object"]
  ty_Twice : PySem.W.typeIn K (.ref A.c_Twice) = some (.type "type")
  ec_Twice : ExcC K A.c_Twice
  ox_Twice : OexC K A.c_Twice
  xf_Twice : XfC K A.c_Twice
  te_Twice : PySem.W.exmOne K (.ref A.c_Twice) (.ref A.c_Twice) = some true
  i_Twice : PySem.W.findIn K (.ref A.c_Twice) "__init__" = some (some (.ref A.a_Twice_init))
  t_Twice : PySem.W.typeIn K (.ref A.a_Twice_init) = some (.type "function")
  no_Twice_name : PySem.W.findIn K (.ref A.c_Twice) "name" = some none
  m_BadName : mg "BadName" = some (.ref A.c_BadName)
  cl_BadName : ∃ cd, PySem.W.clsIn K A.c_BadName = some cd ∧ cd.mro = .ref A.c_BadName :: [.ref A.c_KindError, .type "ValueError", .type "Exception", .type "BaseException", .type "object"]
  ty_BadName : PySem.W.typeIn K (.ref A.c_BadName) = some (.type "type")
  ec_BadName : ExcC K A.c_BadName
  ox_BadName : OexC K A.c_BadName
  xf_BadName : XfC K A.c_BadName
  te_BadName : PySem.W.exmOne K (.ref A.c_BadName) (.ref A.c_BadName) = some true
  i_BadName : PySem.W.findIn K (.ref A.c_BadName) "__init__" = some (some (.ref A.a_BadName_init))
  t_BadName : PySem.W.typeIn K (.ref A.a_BadName_init) = some (.type "function")
  no_BadName_name : PySem.W.findIn K (.ref A.c_BadName) "name" = some none
  m_BadFilling : mg "BadFilling" = some (.ref A.c_BadFilling)
  cl_BadFilling : ∃ cd, PySem.W.clsIn K A.c_BadFilling = some cd ∧ cd.mro = .ref A.c_BadFilling :: [.ref A.c_KindError, .type "ValueError", .type "Exception", .type "BaseException", .type "object"]
  ty_BadFilling : PySem.W.typeIn K (.ref A.c_BadFilling) = some (.type "type")
  ec_BadFilling : ExcC K A.c_BadFilling
  ox_BadFilling : OexC K A.c_BadFilling
  xf_BadFilling : XfC K A.c_BadFilling
  te_BadFilling : PySem.W.exmOne K (.ref A.c_BadFilling) (.ref A.c_BadFilling) = some true
  i_BadFilling : PySem.W.findIn K (.ref A.c_BadFilling) "__init__" = some (some (.ref A.a_BadFilling_init))
  t_BadFilling : PySem.W.typeIn K (.ref A.a_BadFilling_init) = some (.type "function")
  no_BadFilling_name : PySem.W.findIn K (.ref A.c_BadFilling) "name" = some none
  m_BadLine : mg "BadLine" = some (.ref A.c_BadLine)
  cl_BadLine : ∃ cd, PySem.W.clsIn K A.c_BadLine = some cd ∧ cd.mro = .ref A.c_BadLine :: [.ref A.c_KindError, .type "ValueError", .type "Exception", .type "BaseException", .type "object"]
  ty_BadLine : PySem.W.typeIn K (.ref A.c_BadLine) = some (.type "type")
  ec_BadLine : ExcC K A.c_BadLine
  ox_BadLine : OexC K A.c_BadLine
  xf_BadLine : XfC K A.c_BadLine
  te_BadLine : PySem.W.exmOne K (.ref A.c_BadLine) (.ref A.c_BadLine) = some true
  i_BadLine : PySem.W.findIn K (.ref A.c_BadLine) "__init__" = some (some (.ref A.a_BadLine_init))
  t_BadLine : PySem.W.typeIn K (.ref A.a_BadLine_init) = some (.type "function")
  no_BadLine_number : PySem.W.findIn K (.ref A.c_BadLine) "number" = some none
  m_Unknown : mg "Unknown" = some (.ref A.c_Unknown)
  cl_Unknown : ∃ cd, PySem.W.clsIn K A.c_Unknown = some cd ∧ cd.mro = .ref A.c_Unknown :: [.ref A.c_KindError, .type "ValueError", .type "Exception", .type "BaseException", .type "object"]
  ty_Unknown : PySem.W.typeIn K (.ref A.c_Unknown) = some (.type "type")
  ec_Unknown : ExcC K A.c_Unknown
  ox_Unknown : OexC K A.c_Unknown
  xf_Unknown : XfC K A.c_Unknown
  te_Unknown : PySem.W.exmOne K (.ref A.c_Unknown) (.ref A.c_Unknown) = some true
  i_Unknown : PySem.W.findIn K (.ref A.c_Unknown) "__init__" = some (some (.ref A.a_Unknown_init))
  t_Unknown : PySem.W.typeIn K (.ref A.a_Unknown_init) = some (.type "function")
  no_Unknown_name : PySem.W.findIn K (.ref A.c_Unknown) "name" = some none
  m_BadMacro : mg "BadMacro" = some (.ref A.c_BadMacro)
  cl_BadMacro : ∃ cd, PySem.W.clsIn K A.c_BadMacro = some cd ∧ cd.mro = .ref A.c_BadMacro :: [.ref A.c_KindError, .type "ValueError", .type "Exception", .type "BaseException", .type "object"]
  ty_BadMacro : PySem.W.typeIn K (.ref A.c_BadMacro) = some (.type "type")
  ec_BadMacro : ExcC K A.c_BadMacro
  ox_BadMacro : OexC K A.c_BadMacro
  xf_BadMacro : XfC K A.c_BadMacro
  te_BadMacro : PySem.W.exmOne K (.ref A.c_BadMacro) (.ref A.c_BadMacro) = some true
  i_BadMacro : PySem.W.findIn K (.ref A.c_BadMacro) "__init__" = some (some (.ref A.a_BadMacro_init))
  t_BadMacro : PySem.W.typeIn K (.ref A.a_BadMacro_init) = some (.type "function")
  no_BadMacro_name : PySem.W.findIn K (.ref A.c_BadMacro) "name" = some none
  m_BadTree : mg "BadTree" = some (.ref A.c_BadTree)
  cl_BadTree : ∃ cd, PySem.W.clsIn K A.c_BadTree = some cd ∧ cd.mro = .ref A.c_BadTree :: [.ref A.c_KindError, .type "ValueError", .type "Exception", .type "BaseException", .type "object"]
  ty_BadTree : PySem.W.typeIn K (.ref A.c_BadTree) = some (.type "type")
  ec_BadTree : ExcC K A.c_BadTree
  ox_BadTree : OexC K A.c_BadTree
  xf_BadTree : XfC K A.c_BadTree
  te_BadTree : PySem.W.exmOne K (.ref A.c_BadTree) (.ref A.c_BadTree) = some true
  i_BadTree : PySem.W.findIn K (.ref A.c_BadTree) "__init__" = some (some (.ref A.a_BadTree_init))
  t_BadTree : PySem.W.typeIn K (.ref A.a_BadTree_init) = some (.type "function")
  no_BadTree_given : PySem.W.findIn K (.ref A.c_BadTree) "given" = some none
  m_BadPlace : mg "BadPlace" = some (.ref A.c_BadPlace)
  cl_BadPlace : ∃ cd, PySem.W.clsIn K A.c_BadPlace = some cd ∧ cd.mro = .ref A.c_BadPlace :: [.ref A.c_KindError, .type "ValueError", .type "Exception", .type "BaseException", .type "object"]
  ty_BadPlace : PySem.W.typeIn K (.ref A.c_BadPlace) = some (.type "type")
  ec_BadPlace : ExcC K A.c_BadPlace
  ox_BadPlace : OexC K A.c_BadPlace
  xf_BadPlace : XfC K A.c_BadPlace
  te_BadPlace : PySem.W.exmOne K (.ref A.c_BadPlace) (.ref A.c_BadPlace) = some true
  i_BadPlace : PySem.W.findIn K (.ref A.c_BadPlace) "__init__" = some (some (.ref A.a_BadPlace_init))
  t_BadPlace : PySem.W.typeIn K (.ref A.a_BadPlace_init) = some (.type "function")
  no_BadPlace_given : PySem.W.findIn K (.ref A.c_BadPlace) "given" = some none
  m_BadKnot : mg "BadKnot" = some (.ref A.c_BadKnot)
  cl_BadKnot : ∃ cd, PySem.W.clsIn K A.c_BadKnot = some cd ∧ cd.mro = .ref A.c_BadKnot :: [.ref A.c_KindError, .type "ValueError", .type "Exception", .type "BaseException", .type "object"]
  ty_BadKnot : PySem.W.typeIn K (.ref A.c_BadKnot) = some (.type "type")
  ec_BadKnot : ExcC K A.c_BadKnot
  ox_BadKnot : OexC K A.c_BadKnot
  xf_BadKnot : XfC K A.c_BadKnot
  te_BadKnot : PySem.W.exmOne K (.ref A.c_BadKnot) (.ref A.c_BadKnot) = some true
  i_BadKnot : PySem.W.findIn K (.ref A.c_BadKnot) "__init__" = some (some (.ref A.a_BadKnot_init))
  t_BadKnot : PySem.W.typeIn K (.ref A.a_BadKnot_init) = some (.type "function")
  no_BadKnot_given : PySem.W.findIn K (.ref A.c_BadKnot) "given" = some none
  m_NoKind : mg "NoKind" = some (.ref A.c_NoKind)
  x_NoKind : PySem.W.excIn K A.c_NoKind [.type "ValueError", .type "Exception", .type "BaseException", .type "object"] "ValueError.__new__" = true
  k_NoKind : PySem.W.keepIn K (.ref A.c_NoKind) = true
  b_NoKind : PySem.W.subIn K (.ref A.c_NoKind) (.type "BaseException") = some true
  t_NoKind : PySem.W.typeIn K (.ref A.c_NoKind) = some (.type "type")
  te_NoKind : PySem.W.exmOne K (.ref A.c_NoKind) (.ref A.c_NoKind) = some true
  cl_NoKind : ∃ cd, PySem.W.clsIn K A.c_NoKind = some cd ∧ cd.mro = .ref A.c_NoKind :: [.ref A.c_KindError, .type "ValueError", .type "Exception", .type "BaseException", .type "object"]
  ty_NoKind : PySem.W.typeIn K (.ref A.c_NoKind) = some (.type "type")
  ec_NoKind : ExcC K A.c_NoKind
  m_BadKind : mg "BadKind" = some (.ref A.c_BadKind)
  cl_BadKind : ∃ cd, PySem.W.clsIn K A.c_BadKind = some cd ∧ cd.mro = .ref A.c_BadKind :: [.ref A.c_KindError, .type "ValueError", .type "Exception", .type "BaseException", .type "object"]
  ty_BadKind : PySem.W.typeIn K (.ref A.c_BadKind) = some (.type "type")
  ec_BadKind : ExcC K A.c_BadKind
  ox_BadKind : OexC K A.c_BadKind
  xf_BadKind : XfC K A.c_BadKind
  te_BadKind : PySem.W.exmOne K (.ref A.c_BadKind) (.ref A.c_BadKind) = some true
  i_BadKind : PySem.W.findIn K (.ref A.c_BadKind) "__init__" = some (some (.ref A.a_BadKind_init))
  t_BadKind : PySem.W.typeIn K (.ref A.a_BadKind_init) = some (.type "function")
  no_BadKind_given : PySem.W.findIn K (.ref A.c_BadKind) "given" = some none
  m_BadForm : mg "BadForm" = some (.ref A.c_BadForm)
  cl_BadForm : ∃ cd, PySem.W.clsIn K A.c_BadForm = some cd ∧ cd.mro = .ref A.c_BadForm :: [.ref A.c_KindError, .type "ValueError", .type "Exception", .type "BaseException", .type "object"]
  ty_BadForm : PySem.W.typeIn K (.ref A.c_BadForm) = some (.type "type")
  ec_BadForm : ExcC K A.c_BadForm
  ox_BadForm : OexC K A.c_BadForm
  xf_BadForm : XfC K A.c_BadForm
  te_BadForm : PySem.W.exmOne K (.ref A.c_BadForm) (.ref A.c_BadForm) = some true
  i_BadForm : PySem.W.findIn K (.ref A.c_BadForm) "__init__" = some (some (.ref A.a_BadForm_init))
  t_BadForm : PySem.W.typeIn K (.ref A.a_BadForm_init) = some (.type "function")
  no_BadForm_number : PySem.W.findIn K (.ref A.c_BadForm) "number" = some none
  m_BadDeeds : mg "BadDeeds" = some (.ref A.c_BadDeeds)
  cl_BadDeeds : ∃ cd, PySem.W.clsIn K A.c_BadDeeds = some cd ∧ cd.mro = .ref A.c_BadDeeds :: [.ref A.c_KindError, .type "ValueError", .type "Exception", .type "BaseException", .type "object"]
  ty_BadDeeds : PySem.W.typeIn K (.ref A.c_BadDeeds) = some (.type "type")
  ec_BadDeeds : ExcC K A.c_BadDeeds
  ox_BadDeeds : OexC K A.c_BadDeeds
  xf_BadDeeds : XfC K A.c_BadDeeds
  te_BadDeeds : PySem.W.exmOne K (.ref A.c_BadDeeds) (.ref A.c_BadDeeds) = some true
  i_BadDeeds : PySem.W.findIn K (.ref A.c_BadDeeds) "__init__" = some (some (.ref A.a_BadDeeds_init))
  t_BadDeeds : PySem.W.typeIn K (.ref A.a_BadDeeds_init) = some (.type "function")
  no_BadDeeds_given : PySem.W.findIn K (.ref A.c_BadDeeds) "given" = some none
  m_BadWeight : mg "BadWeight" = some (.ref A.c_BadWeight)
  cl_BadWeight : ∃ cd, PySem.W.clsIn K A.c_BadWeight = some cd ∧ cd.mro = .ref A.c_BadWeight :: [.ref A.c_KindError, .type "ValueError", .type "Exception", .type "BaseException", .type "object"]
  ty_BadWeight : PySem.W.typeIn K (.ref A.c_BadWeight) = some (.type "type")
  ec_BadWeight : ExcC K A.c_BadWeight
  ox_BadWeight : OexC K A.c_BadWeight
  xf_BadWeight : XfC K A.c_BadWeight
  te_BadWeight : PySem.W.exmOne K (.ref A.c_BadWeight) (.ref A.c_BadWeight) = some true
  i_BadWeight : PySem.W.findIn K (.ref A.c_BadWeight) "__init__" = some (some (.ref A.a_BadWeight_init))
  t_BadWeight : PySem.W.typeIn K (.ref A.a_BadWeight_init) = some (.type "function")
  no_BadWeight_given : PySem.W.findIn K (.ref A.c_BadWeight) "given" = some none
  m_BadUnits : mg "BadUnits" = some (.ref A.c_BadUnits)
  cl_BadUnits : ∃ cd, PySem.W.clsIn K A.c_BadUnits = some cd ∧ cd.mro = .ref A.c_BadUnits :: [.ref A.c_KindError, .type "ValueError", .type "Exception", .type "BaseException", .type "object"]
  ty_BadUnits : PySem.W.typeIn K (.ref A.c_BadUnits) = some (.type "type")
  ec_BadUnits : ExcC K A.c_BadUnits
  ox_BadUnits : OexC K A.c_BadUnits
  xf_BadUnits : XfC K A.c_BadUnits
  te_BadUnits : PySem.W.exmOne K (.ref A.c_BadUnits) (.ref A.c_BadUnits) = some true
  i_BadUnits : PySem.W.findIn K (.ref A.c_BadUnits) "__init__" = some (some (.ref A.a_BadUnits_init))
  t_BadUnits : PySem.W.typeIn K (.ref A.a_BadUnits_init) = some (.type "function")
  no_BadUnits_given : PySem.W.findIn K (.ref A.c_BadUnits) "given" = some none
  m_BadBudget : mg "BadBudget" = some (.ref A.c_BadBudget)
  cl_BadBudget : ∃ cd, PySem.W.clsIn K A.c_BadBudget = some cd ∧ cd.mro = .ref A.c_BadBudget :: [.ref A.c_KindError, .type "ValueError", .type "Exception", .type "BaseException", .type "object"]
  ty_BadBudget : PySem.W.typeIn K (.ref A.c_BadBudget) = some (.type "type")
  ec_BadBudget : ExcC K A.c_BadBudget
  ox_BadBudget : OexC K A.c_BadBudget
  xf_BadBudget : XfC K A.c_BadBudget
  te_BadBudget : PySem.W.exmOne K (.ref A.c_BadBudget) (.ref A.c_BadBudget) = some true
  i_BadBudget : PySem.W.findIn K (.ref A.c_BadBudget) "__init__" = some (some (.ref A.a_BadBudget_init))
  t_BadBudget : PySem.W.typeIn K (.ref A.a_BadBudget_init) = some (.type "function")
  no_BadBudget_given : PySem.W.findIn K (.ref A.c_BadBudget) "given" = some none
  m_BadStep : mg "BadStep" = some (.ref A.c_BadStep)
  cl_BadStep : ∃ cd, PySem.W.clsIn K A.c_BadStep = some cd ∧ cd.mro = .ref A.c_BadStep :: [.ref A.c_KindError, .type "ValueError", .type "Exception", .type "BaseException", .type "object"]
  ty_BadStep : PySem.W.typeIn K (.ref A.c_BadStep) = some (.type "type")
  ec_BadStep : ExcC K A.c_BadStep
  ox_BadStep : OexC K A.c_BadStep
  xf_BadStep : XfC K A.c_BadStep
  te_BadStep : PySem.W.exmOne K (.ref A.c_BadStep) (.ref A.c_BadStep) = some true
  i_BadStep : PySem.W.findIn K (.ref A.c_BadStep) "__init__" = some (some (.ref A.a_BadStep_init))
  t_BadStep : PySem.W.typeIn K (.ref A.a_BadStep_init) = some (.type "function")
  no_BadStep_given : PySem.W.findIn K (.ref A.c_BadStep) "given" = some none
  m_TooMany : mg "TooMany" = some (.ref A.c_TooMany)
  cl_TooMany : ∃ cd, PySem.W.clsIn K A.c_TooMany = some cd ∧ cd.mro = .ref A.c_TooMany :: [.ref A.c_KindError, .type "ValueError", .type "Exception", .type "BaseException", .type "object"]
  ty_TooMany : PySem.W.typeIn K (.ref A.c_TooMany) = some (.type "type")
  ec_TooMany : ExcC K A.c_TooMany
  ox_TooMany : OexC K A.c_TooMany
  xf_TooMany : XfC K A.c_TooMany
  te_TooMany : PySem.W.exmOne K (.ref A.c_TooMany) (.ref A.c_TooMany) = some true
  i_TooMany : PySem.W.findIn K (.ref A.c_TooMany) "__init__" = some (some (.ref A.a_TooMany_init))
  t_TooMany : PySem.W.typeIn K (.ref A.a_TooMany_init) = some (.type "function")
  no_TooMany_count : PySem.W.findIn K (.ref A.c_TooMany) "count" = some none
  m_NoSuch : mg "NoSuch" = some (.ref A.c_NoSuch)
  cl_NoSuch : ∃ cd, PySem.W.clsIn K A.c_NoSuch = some cd ∧ cd.mro = .ref A.c_NoSuch :: [.ref A.c_KindError, .type "ValueError", .type "Exception", .type "BaseException", .type "object"]
  ty_NoSuch : PySem.W.typeIn K (.ref A.c_NoSuch) = some (.type "type")
  ec_NoSuch : ExcC K A.c_NoSuch
  ox_NoSuch : OexC K A.c_NoSuch
  xf_NoSuch : XfC K A.c_NoSuch
  te_NoSuch : PySem.W.exmOne K (.ref A.c_NoSuch) (.ref A.c_NoSuch) = some true
  i_NoSuch : PySem.W.findIn K (.ref A.c_NoSuch) "__init__" = some (some (.ref A.a_NoSuch_init))
  t_NoSuch : PySem.W.typeIn K (.ref A.a_NoSuch_init) = some (.type "function")
  no_NoSuch_name : PySem.W.findIn K (.ref A.c_NoSuch) "name" = some none
  m_NothingToUndo : mg "NothingToUndo" = some (.ref A.c_NothingToUndo)
  x_NothingToUndo : PySem.W.excIn K A.c_NothingToUndo [.type "ValueError", .type "Exception", .type "BaseException", .type "object"] "ValueError.__new__" = true
  k_NothingToUndo : PySem.W.keepIn K (.ref A.c_NothingToUndo) = true
  b_NothingToUndo : PySem.W.subIn K (.ref A.c_NothingToUndo) (.type "BaseException") = some true
  t_NothingToUndo : PySem.W.typeIn K (.ref A.c_NothingToUndo) = some (.type "type")
  te_NothingToUndo : PySem.W.exmOne K (.ref A.c_NothingToUndo) (.ref A.c_NothingToUndo) = some true
  cl_NothingToUndo : ∃ cd, PySem.W.clsIn K A.c_NothingToUndo = some cd ∧ cd.mro = .ref A.c_NothingToUndo :: [.ref A.c_KindError, .type "ValueError", .type "Exception", .type "BaseException", .type "object"]
  ty_NothingToUndo : PySem.W.typeIn K (.ref A.c_NothingToUndo) = some (.type "type")
  ec_NothingToUndo : ExcC K A.c_NothingToUndo
  m_NothingToRedo : mg "NothingToRedo" = some (.ref A.c_NothingToRedo)
  x_NothingToRedo : PySem.W.excIn K A.c_NothingToRedo [.type "ValueError", .type "Exception", .type "BaseException", .type "object"] "ValueError.__new__" = true
  k_NothingToRedo : PySem.W.keepIn K (.ref A.c_NothingToRedo) = true
  b_NothingToRedo : PySem.W.subIn K (.ref A.c_NothingToRedo) (.type "BaseException") = some true
  t_NothingToRedo : PySem.W.typeIn K (.ref A.c_NothingToRedo) = some (.type "type")
  te_NothingToRedo : PySem.W.exmOne K (.ref A.c_NothingToRedo) (.ref A.c_NothingToRedo) = some true
  cl_NothingToRedo : ∃ cd, PySem.W.clsIn K A.c_NothingToRedo = some cd ∧ cd.mro = .ref A.c_NothingToRedo :: [.ref A.c_KindError, .type "ValueError", .type "Exception", .type "BaseException", .type "object"]
  ty_NothingToRedo : PySem.W.typeIn K (.ref A.c_NothingToRedo) = some (.type "type")
  ec_NothingToRedo : ExcC K A.c_NothingToRedo
  nd : List.Nodup [A.c_KindError, A.c_BadText, A.c_Twice, A.c_BadName, A.c_BadFilling, A.c_BadLine, A.c_Unknown, A.c_BadMacro, A.c_BadTree, A.c_BadPlace, A.c_BadKnot, A.c_BadKind, A.c_BadForm, A.c_BadDeeds, A.c_BadWeight, A.c_BadUnits, A.c_BadBudget, A.c_BadStep, A.c_TooMany, A.c_NoSuch, A.c_ByZero, A.c_NoKind, A.c_NothingToUndo, A.c_NothingToRedo]
end Toy
namespace Toy
open PySem L2 U
local macro_rules | `(tactic| walk_at "w") => `(tactic| repeat (first
  | refine ⟨_, rfl, ?_⟩
  | refine ⟨_, _, rfl, rfl, ?_⟩
  | refine Or.inr ⟨_, rfl, ?_⟩
  | refine Or.inl ⟨rfl, ?_⟩
  | refine Or.inl ⟨_, _, rfl, rfl, ?_⟩
  | refine Or.inl ⟨_, rfl, U.sz (by omega), ?_⟩
  | refine Or.inr ⟨_, _, rfl, rfl, ?_⟩
  | refine Or.inl ⟨_, _, _, _, rfl, rfl, (by first | assumption | exact SqL.of (by assumption) | exact SqL.of upd_same), (by rfl), ?_⟩
  | refine ⟨_, _, _, _, rfl, rfl, (by first | assumption | exact upd_same), (by rfl), ?_⟩
  | refine Or.inr ⟨_, _, rfl, (by first | exact Or.inl (by assumption) | exact Or.inl (SqL.of (by assumption)) | exact Or.inl (SqL.of upd_same) | exact Or.inr (SqT.of upd_same) | exact Or.inr (by assumption)), (by rfl), (by rfl), ?_⟩
  | refine Or.inr ⟨_, _, rfl, Or.inl (by first | assumption | exact SqL.of (by assumption) | exact SqL.of upd_same), ?_⟩
  | refine ⟨_, _, rfl, ?_⟩
  | refine And.intro (Or.inl ⟨rfl, _, SqL.of (by first | assumption | exact upd_same)⟩) ?_
  | refine ⟨_, _, _, rfl, rfl, (by first | assumption | exact upd_same), U.szl (by first | omega | (rw [List.length_map]; omega) | (show _ < 100000; decide)), ?_⟩
  | refine ⟨U.sz (by first | decide | (simp only [List.length_cons, List.length_nil]; decide)), ?_⟩
  | refine And.intro (by first | omega | decide) ?_
  | refine And.intro ⟨by omega, by omega⟩ ?_
  | refine And.intro (Or.inl ⟨by omega, by omega⟩) ?_
  | refine And.intro (Or.inr ⟨by omega, by omega⟩) ?_
  | refine And.intro ⟨by omega, by omega, by omega⟩ ?_
  | refine U.ifT (by omega) ?_
  | refine U.ifF (by omega) ?_
  | refine U.ifTi (by omega) ?_
  | refine U.ifFi (by omega) ?_))
section
open PySem.Spec PyProof.Rows
variable {X : Cx} {CX : CXT} {k : Nat} {f C : Addr} {fd : FuncData} {ps : List Str} {sp : Sp} {dvs : List V} {ds : List Value} {E : XK} {x m n : Str} {p pos apos : Pos} {e o : Expr} {es : List Expr} {ta te : TE} {t : TA}
/-- C(e, ..), an own exception class with own __init__, as a value -/
def tMkV (C : Addr) (sp : Sp) (dvs : List V) (ta : TA) : TE := fun σ H Q => ta σ H fun vs H1 => vs.length ≤ 1000 ∧ ∀ a, H1 a = none → sp (.ref a :: (vs ++ dvs)) (upd H1 a (exo a C none)) (fun v H2 => v = .non ∧ Q (.ref a) H2) (fun _ _ _ => False)
theorem pe_excI (T : OexC X.K C) (iC : PySem.W.findIn X.K (.ref C) "__init__" = some (some (.ref f))) (tI : PySem.W.typeIn X.K (.ref f) = some (.type "function"))
    (F1 : FnOk X.prog X.w X.K X.mg X.base CX k f fd ps sp) (hr : Room (k + 1) X.A) (hb : Binds X.K fd ps ds) (hd : Vals dvs ds) (hx : Passes CX X (fun _ _ _ => False)) (hg : Gl X x) (hm : X.mg x = some (.ref C)) (ha : PA X (e :: es) t)
    (hdb : (x == ("__debug__" : Str)) = false := by decide) (he : starEach (e :: es) X.env = (false, eval e X.env) :: starEach es X.env := by rfl) (hpl : (backTo pos (starEach es X.env)).any (·.1) = false := by rfl) :
    PE X (.Call (.Name x p) (e :: es) [] pos) (tMkV C sp dvs t) := by
  refine ⟨fun pins s σ H Q I h => ?_⟩
  obtain ⟨nm, q, N, bs, bm, sn, sub, ab, col, dd, k0, k1, k2, k3, k5, hC, hbm⟩ := T.cls
  refine wpAny_Call_Name_kw (ld_glob I hg hm ?_ hdb)
  refine PySem.W.callWith_K (h₀ := X.base) I.ok.mod.kin T.kC (thn (ha.run pos pins s σ H _ I h) fun us s1 ⟨vs, H1, I1, r1, hz, q1⟩ => ⟨I1.kIn, ?_⟩) he hpl
  show wpAny _ _ (call (.ref C) us) _ _ _
  obtain ⟨hp, g, dr, tk, os⟩ := s1
  have hsz : hp.objs.size ≤ hp.objs.size + 1 := Nat.le_succ _
  have hn : H1 (hp.objs.size + 1) = none := I1.hok.fresh hsz
  have hq := q1 (hp.objs.size + 1) hn
  have kk : ∀ b o, hp.get? b = some o → ((hp.push (PySem.W.kdv_tup us)).push (PySem.HandSPX.excO C hp.objs.size)).get? b = some o := fun b o e => Heap.get?_push_of_some _ (Heap.get?_push_of_some _ e)
  have hget : ((hp.push (PySem.W.kdv_tup us)).push (PySem.HandSPX.excO C hp.objs.size)).get? (hp.objs.size + 1) = some (PySem.HandSPX.excO C hp.objs.size) := by heap_get
  have I2 : Inv X pins σ (upd H1 (hp.objs.size + 1) (exo (hp.objs.size + 1) C none)) ⟨(hp.push (PySem.W.kdv_tup us)).push (PySem.HandSPX.excO C hp.objs.size), g, dr, tk, os⟩ :=
    I1.laid (t' := tk) (a := hp.objs.size + 1) (o := exo (hp.objs.size + 1) C none) (h' := (hp.push (PySem.W.kdv_tup us)).push (PySem.HandSPX.excO C hp.objs.size)) kk hsz (exo_ok hget)
  have r2 : Vals (V.ref (hp.objs.size + 1) :: (vs ++ dvs)) (Value.ref (hp.objs.size + 1) :: (us ++ ds)) := .cons rfl (r1.append hd)
  have hl : (Value.ref (hp.objs.size + 1) :: us ++ ds).length = ps.length := by
    have e := r2.length
    rw [F1.len _ _ _ _ hq] at e
    exact e.symm
  have hus : us.length ≤ sizeLine := by
    rw [← Paired.length r1, sizeLine_eq]
    omega
  refine wpAny_call (PySem.HandSPX.call_own F.excBase_ValueError (fun Y => PySem.HandSPX.refsVE_contains Y bm hbm) (I1.kIn _ _ hC) (PySem.W.looks_findIn I1.kIn iC) (fun self => PySem.W.bind_fn I1.kIn self tI) hus
    (codeAny_mono (F1.run _ X.stack _ _ ⟨Value.ref (hp.objs.size + 1) :: us, []⟩ (Value.ref (hp.objs.size + 1) :: (us ++ ds)) _ _ (fun _ _ _ => False) (hr.make C us []) (I2.env0.make C us []) (hb _ (Value.ref (hp.objs.size + 1) :: us) I2.kIn hl) r2 hq) fun r s' hq' => ?_))
  cases r with
  | error er => exact hx pins σ _ _ er s' I2 hq'
  | ok fl =>
    cases fl with
    | ret u =>
      obtain ⟨v, H', I3, rv, ev, q3⟩ := I2.after hq'
      subst ev
      exact ⟨rv, ⟨V.ref (hp.objs.size + 1), H', I3, rfl, q3⟩⟩
    | next => exact False.elim hq'
    | brk => exact False.elim hq'
    | cont => exact False.elim hq'
/-- C(), an own exception class without own __init__, as a value -/
def tMk0 (C : Addr) : TE := fun _ H Q => ∀ a, H a = none → Q (.ref a) (upd H a (ExO (.ref C) a))
theorem pe_exc0 {bmB : List Value} {B newId initId : String} (F : ExcBaseFacts B newId initId bmB) (q : PySem.W.excIn X.K C bmB newId = true) (gC : X.mg x = some (.ref C)) (kC : PySem.W.keepIn X.K (.ref C) = true) (hg : Gl X x)
    (hdb : (x == ("__debug__" : Str)) = false := by decide) : PE X (.Call (.Name x p) [] [] pos) (tMk0 C) := by
  refine ⟨fun pins s σ H Q I h => ?_⟩
  refine wpAny_Call_Name_kw (ld_glob I hg gC ?_ hdb)
  refine PySem.W.callWith_K0 I.kIn kC ?_
  show wpAny _ _ (call (.ref C) []) _ _ _
  obtain ⟨bm, N, nm, qn, bs, hdct, sn, sub, ab, col, dd, k0, k1, k2, k3, k5, mN, hC, hN, hni, T⟩ := exc_obj I.kIn q
  refine wpAny_call_exc_subT F T hC hN hni (fun h' a hm => ?_) (Nat.zero_le _)
  have hn : H a = none := I.hok.gone hm.new
  obtain ⟨t, ht, _, _⟩ := hm.there
  exact ⟨.ref a, upd H a (ExO (.ref C) a), I.laidN hm.keeps hm.new hn (exO_ok ht ⟨rfl, rfl⟩ rfl rfl rfl (show 4 < 6 by decide)), rfl, h a hn⟩
/-- the exception at a, of the class at D: with a dict, or without one -/
def ExcAt (H : Hp) (a D : Addr) : Prop := (∃ dx fs, H a = some (exo a D (some dx)) ∧ H dx = some (exd dx fs)) ∨ H a = some (ExO (.ref D) a)
theorem ExcAt.same {H H' : Hp} {a D : Addr} (h : ExcAt H a D) (s : Same H H') : ExcAt H' a D := by
  rcases h with ⟨dx, fs, h1, h2⟩ | h
  · exact .inl ⟨dx, fs, s _ _ h1, s _ _ h2⟩
  · exact .inr (s _ _ h)
theorem exc_inst {pins : List (Addr × Obj)} {σ : L2.St} {H : Hp} {s : Shared} {a D : Addr} (I : Inv X pins σ H s) (h : ExcAt H a D) : ∃ ox od, PySem.W.InstAt s.heap a ox D od := by
  rcases h with ⟨dx, fs, h1, h2⟩ | h
  · obtain ⟨t1, ho⟩ := exo_at I.hok h1
    obtain ⟨mA, hn, _⟩ := exd_at I.hok h2
    obtain ⟨od, hd, _⟩ := lookIn_ns hn
    exact ⟨_, some od, ho, rfl, rfl, hd⟩
  · have z : ObjOk X.prog X.w H s.heap a (ExO (.ref D) a) := I.hok a _ h
    obtain ⟨⟨oe, vs, e, ⟨h1, h2⟩, hd, _⟩, _⟩ := z
    obtain ⟨oc, od, oda, osl⟩ := oe
    dsimp only at h1 h2 hd
    subst h1 h2 hd
    exact ⟨_, none, e, rfl, rfl, trivial⟩
/-- isinstance(e, c), e an exception that is held as a value -/
def rIsX (K : PySem.W.Frag) : List V → Hp → VK → Prop := fun xs H Q => ∃ (a D : Addr) (c : V) (u : Value) (b : Bool), xs = [.ref a, c] ∧ ExcAt H a D ∧ ExcC K D ∧ ClsV c u ∧ PySem.W.kitOne K (.ref D) u = some b ∧ Q (.bl b) H
theorem call_isX : CallR X (.builtin "isinstance") (rIsX X.K) := by
  intro pins s σ H xs us Q I r h
  obtain ⟨a, D, c, u, b, rfl, hx, hc, k, e, q⟩ := h
  obtain ⟨u1, u2, rfl, r1, r2⟩ := vals2 r
  cases (show u1 = Value.ref a from r1)
  have e2 := k.eq r2
  subst e2
  obtain ⟨ox, od, J⟩ := exc_inst I hx
  have hcl : (PySem.W.clsIn X.K D).isSome = true := by
    obtain ⟨cd, hcd, _⟩ := PySem.W.any_some hc.hd
    rw [hcd]
    rfl
  exact PySem.W.kia_one (PySem.W.kitx_exc hcl hc.hg hc.hk hc.hs hc.ha hc.hn hc.ht hc.hm) I.kIn J e (fun z => nomatch z) fun tk => ⟨.bl b, H, I.tok _, rfl, q⟩
theorem call_isU : CallR X (.builtin "isinstance") (fun xs H Q => rIsi X.K xs H Q ∨ rIsX X.K xs H Q) := call_isi.or call_isX
/-- e.f, e an exception that is held as a value -/
def tExf (K : PySem.W.Frag) (f : Str) (te : TE) : TE := fun σ H Q => te σ H fun x H1 => ∃ (a D dx : Addr) (fs : List (Str × V)) (v : V), x = .ref a ∧ H1 a = some (exo a D (some dx)) ∧ H1 dx = some (exd dx fs) ∧ XfC K D ∧ PySem.W.findIn K (.ref D) f = some none ∧ fs.lookup f = some v ∧ Q v H1
theorem pe_exf (he : PE X e te) (hb : attributeBase e n X.env (eval e X.env) = eval e X.env := by rfl) : PE X (.Attribute e n pos) (tExf X.K n te) := by
  refine ⟨fun pins s σ H Q I h => ?_⟩
  refine attr_of hb (thn (he.run pins s σ H _ I h) fun u s1 hh => ?_)
  obtain ⟨x, H1, I1, rx, a, D, dx, fs, v, ex, h1, h2, T, hno, l, q⟩ := hh
  subst ex
  obtain rfl : u = Value.ref a := rx
  obtain ⟨t1, ho⟩ := exo_at I1.hok h1
  obtain ⟨mA, hns, hr⟩ := exd_at I1.hok h2
  obtain ⟨od, hd, hl⟩ := lookIn_ns hns
  obtain ⟨u, hu, ru⟩ := RelO.some_of (v := v) (o := mA n) (by rw [← l]; exact hr n)
  have J : PySem.W.InstAt s1.heap a _ D (some od) := ⟨ho, rfl, rfl, hd⟩
  exact HandSPX.exc_get I1.kIn J T.ga T.gg T.exC (PySem.W.findObj_own T.hdC hno rfl (by rw [hl, hu])) (handed_of ru) ⟨v, H1, I1.tok _, ru, q⟩
end
section
open PySem.Spec PyProof.Rows
variable {X : Cx} {CX : CXT} {k : Nat} {f C : Addr} {fd : FuncData} {ps : List Str} {sp : Sp} {dvs : List V} {ds : List Value} {E : XK} {x m n : Str} {p pos apos : Pos} {e o : Expr} {es : List Expr} {ta te : TE} {t : TA}
/-- a key as data -/
def kD : Key → PyData
  | .inl i => .int i
  | .inr x => .str x
/-- a dict of whole numbers as data -/
def dD (es : List (Key × Int)) : PyData := .dict (es.map fun q => (kD q.1, .int q.2))
def dV (es : List (Key × Int)) : List (Key × V) := es.map fun q => (q.1, .int q.2)
/-- what can be shown: data without dicts, or a dict of whole numbers -/
def Shw (K : PySem.W.Frag) (H : Hp) (v : V) (d : PyData) : Prop := (Dp K H v d ∧ d.hasDict = false) ∨ ∃ a es, v = .ref a ∧ H a = some (.dK (dV es)) ∧ d = dD es
theorem keys_reads {h : Heap} {P : Program} {w : World} : ∀ {es : List (Key × Int)} {ents : List DictEntry} {vs : List (Key × Value)}, KV (dV es) vs → Pairs (mixKind P w) ents vs →
    ReadsAll h (ents.map (·.key)) ((es.map fun q => (kD q.1, PyData.int q.2)).map (·.1)) [] ∧ ReadsAll h (ents.map (·.val)) ((es.map fun q => (kD q.1, PyData.int q.2)).map (·.2)) []
  | [], _, _, hk, hp => by
    cases hk
    cases hp
    exact ⟨.nil, .nil⟩
  | q :: es, _, _, hk, hp => by
    cases hk with
    | cons h1 h2 =>
      cases hp with
      | cons p1 p2 p3 =>
        obtain ⟨r1, r2⟩ := keys_reads (h := h) h2 p3
        obtain ⟨e1, e2⟩ := h1
        obtain ⟨tk, e3⟩ := (show ∃ t, _ = Value.int q.2 t from e2)
        rename_i bb _ ee _
        have e1' : q.1 = bb.1 := e1
        have kk : keyIs q.1 ee.key = true := by
          rw [e1']
          exact p1
        constructor
        · refine ReadsAll.cons (as := []) ?_ r1
          show Reads h ee.key (kD q.1) []
          rcases keyIs_shape kk with ⟨i, t, z1, z2⟩ | ⟨y, t, z1, z2⟩
          · rw [z2, z1]
            exact Reads.int i t
          · rw [z2, z1]
            exact Reads.str y t
        · refine ReadsAll.cons (as := []) ?_ r2
          show Reads h ee.val (.int q.2) []
          rw [p2, e3]
          exact Reads.int _ _
theorem Shw.reads {pins : List (Addr × Obj)} {σ : L2.St} {H : Hp} {s : Shared} {v : V} {u : Value} {d : PyData} (h : Shw X.K H v d) (I : Inv X pins σ H s) (r : RelV v u) : ∃ as, Reads s.heap u d as ∧ (d.hasDict = true → sysModules ∉ as) := by
  rcases h with ⟨h, hn⟩ | ⟨a, es, rfl, ha, rfl⟩
  · obtain ⟨as, q⟩ := Dp.reads I d v u h r
    exact ⟨as, q, fun z => by rw [hn] at z; cases z⟩
  · cases (show u = Value.ref a from r)
    obtain ⟨_, ne, vs, hk, ob, ents, ep, h1, hx, hd, _, hp, _⟩ := (show ObjOk X.prog X.w H s.heap a (.dK (dV es)) from I.hok a _ ha)
    obtain ⟨r1, r2⟩ := keys_reads (h := s.heap) hk hp
    refine ⟨_, Reads.dict h1 hx.1 hd r1 r2, fun _ z => ?_⟩
    rw [List.append_nil] at z
    have z' := List.mem_singleton.mp z
    rw [← z'] at ne
    simp at ne
/-- repr(v): wants that nothing is being shown around -/
def rShw (K : PySem.W.Frag) : List V → Hp → VK → Prop := fun xs H Q => ∃ (v : V) (d : PyData), xs = [v] ∧ Shw K H v d ∧ d.showable = true ∧ d.depth ≤ 60 ∧ d.shown.length ≤ sizeLine ∧ Q (.str d.shown) H
theorem call_shw (hg : X.A.guards = some []) (hu : X.A.units + 64 < cLine) : CallR X (.builtin "repr") (rShw X.K) := by
  intro pins s σ H xs us Q I r h
  obtain ⟨v, d, rfl, hS, h1, h2, h3, q⟩ := h
  obtain ⟨u, rfl, ru⟩ := vals1 r
  obtain ⟨as, rd, hsm⟩ := hS.reads I ru
  have fin : ∀ (h' : Heap) (t : Tok) (tk : Nat), (∀ b o, s.heap.get? b = some o → h'.get? b = some o) → EP X pins σ Q (.str d.shown t) { s with heap := h', toks := tk } := fun h' t tk kk => ⟨.str d.shown, H, I.kept kk, ⟨_, rfl⟩, q⟩
  cases rd with
  | none => exact PySem.P.repr_of_none (fin s.heap _ _ fun _ _ z => z)
  | bool b => exact PySem.P.repr_of_bool (fin s.heap _ _ fun _ _ z => z)
  | int i t => exact PySem.P.repr_of_int (of_decide_eq_true h1) (fin s.heap _ _ fun _ _ z => z)
  | str y t => exact PySem.P.repr_of_str (fin s.heap _ _ fun _ _ z => z) h3
  | list a1 a2 a3 a4 => exact PySem.repr_of_reads' (.list a1 a2 a3 a4) h1 hsm hg (by omega) (fun _ _ z => z) fin h3
  | tuple a1 a2 a3 a4 => exact PySem.repr_of_reads' (.tuple a1 a2 a3 a4) h1 hsm hg (by omega) (fun _ _ z => z) fin h3
  | dict a1 a2 a3 a4 a5 => exact PySem.repr_of_reads' (.dict a1 a2 a3 a4 a5) h1 hsm hg (by omega) (fun _ _ z => z) fin h3
end
section
open PySem.Spec PyProof.Rows
/-- a def's promise where nothing is being shown around the call -/
structure FnG (P : Program) (w : World) (K : PySem.W.Frag) (mg : Str → Option Value) (base : Heap) (k : Nat) (f : Addr) (fd : FuncData) (ps : List Str) (sp : Sp) : Prop where
  len : ∀ vs H Q E, sp vs H Q E → vs.length = ps.length
  run : ∀ (A : Around) (outer : List Env) (s : Shared) (H : Hp) (args : Args) (us : List Value) (vs : List V) (Q : VK) (E : XK), A.guards = some [] → Room k A → Env0 P w K mg base A outer s H → BindsTo s fd args (ps.zip us) → Vals vs us → sp vs H Q E →
    codeAny (model P w) A (.call (.ref f) args) (fun r s' => ∃ u, r = .ok (.ret u) ∧ CE outer P w H s Q u s') s
section
variable {P : Program} {w : World} {K : PySem.W.Frag} {mg : Str → Option Value} {base : Heap}
/-- the rule for such a def: its body, as a def of HandS is proved, with one fact more -/
theorem okG {x qual : Str} {st : Stmt} {f : Addr} {fd : FuncData} {N ps : List Str} {k : Nat} {sp : Sp} (F : Fun K x qual st f fd) (S : FnScope N ps (defScope st)) (len : ∀ vs H Q E, sp vs H Q E → vs.length = ps.length)
    (hbody : ∀ (cdv : Value) (A : Around) (outer : List Env) (s : Shared) (H : Hp) (vs : List V) (Q : VK) (E : XK), A.guards = some [] → Room k (A.deeper (envOfC qual (defScope st) s.heap.objs.size f cdv)) → sp vs H Q E →
      ∃ t, PSs (cxOf CX0 P w K mg base N qual (defScope st) f cdv A outer s H E).nox (defBody st) t ∧ t { nx := fun _ H' => Q .non H', rt := Q } (start N vs) H) : FnG P w K mg base (k + 1) f fd ps sp := by
  obtain ⟨oc, od, kV, doc, pm, an, cdv, ct, osl, rfl, lk, hcd⟩ := F.ex
  refine ⟨len, fun A outer s H args us vs Q E hG hr e0 hb r hsp => ?_⟩
  have old : ∀ b o, base.get? b = some o → s.heap.get? b = some o := fun b o e => (e0.bs b o e).1
  have names : ∀ y ∈ ps.zip us, (defScope st).names.lookup y.1 = some .local ∨ ((defScope st).names.lookup y.1 = some .cell ∧ ((cellsFrom (s.heap.objs.size + 1) (defScope st).names []).lookup y.1).isSome = true) := fun y hy =>
    (S.par y.1 (List.of_mem_zip hy).1).elim .inl fun q => .inr ⟨q, PySem.W.cellsFrom_some _ _ _ (.inl q)⟩
  refine codeAny_call_function hr.depth (e0.mod.kin.keeps old _ _ lk) rfl S.co S.gen rfl (PySem.W.codeRec_of (e0.mod.kin.keeps old) hcd) (hb _ _ _ _ ?_)
  refine wpAny_newFunctionEnv_cells S.kind names fun env he s1 x => ?_
  subst he
  refine ⟨(e0.mod.nolimit.keeps old).keeps x.toInCall.keep, codeAny_func ?_⟩
  obtain ⟨t, ht, hq⟩ := hbody cdv A outer s H vs Q E hG (hr.deeper _) hsp
  have I := inv_start (CX := CX0) (E := E) S hr.hd e0 (len _ _ _ _ hsp) r x
  refine wpAny_mono (ht.run [] s1 (start N vs) H _ (I.wish _) hq) (fun fl s' hs => ?_) fun e s' hs => False.elim hs
  cases fl with
    | ret u =>
      obtain ⟨v, σ', H', J, rv, q⟩ := hs
      exact ⟨u, rfl, v, H', J.os, J.bare, J.base, J.hok, rv, q⟩
    | next =>
      obtain ⟨σ', H', J, q⟩ := hs
      exact ⟨.none, rfl, .non, H', J.os, J.bare, J.base, J.hok, rfl, q⟩
    | brk => exact False.elim hs.choose_spec.choose_spec.2
    | cont => exact False.elim hs.choose_spec.choose_spec.2
end
section
variable {X : Cx} {k : Nat} {f : Addr} {fd : FuncData} {ps : List Str} {sp : Sp} {x : Str} {p pos : Pos} {e : Expr} {es : List Expr} {t : TA}
/-- f(e, ..), f such a def -/
theorem pe_callG (F : FnG X.prog X.w X.K X.mg X.base k f fd ps sp) (hG : X.A.guards = some []) (hr : Room k X.A) (hg : Gl X x) (hm : X.mg x = some (.ref f)) (hk : PySem.W.keepIn X.K (.ref f) = true) (hb : Binds X.K fd ps [])
    (ha : PA X (e :: es) t) (hdb : (x == ("__debug__" : Str)) = false := by decide) (he : starEach (e :: es) X.env = (false, eval e X.env) :: starEach es X.env := by rfl) (hpl : (backTo pos (starEach es X.env)).any (·.1) = false := by rfl) :
    PE X (.Call (.Name x p) (e :: es) [] pos) (tCall sp [] E0 t) := by
  refine ⟨fun pins s σ H Q I h => ?_⟩
  refine wpAny_Call_Name_kw (ld_glob I hg hm ?_ hdb)
  refine PySem.W.callWith_K (h₀ := X.base) I.ok.mod.kin hk (thn (ha.run pos pins s σ H _ I h) fun us s1 ⟨vs, H1, I1, r, q⟩ => ⟨I1.kIn, ?_⟩) he hpl
  have q : sp (vs ++ []) H1 Q E0 := q
  rw [List.append_nil] at q
  have b := hb s1 us I1.kIn (by rw [List.append_nil, ← r.length]; exact F.len _ _ _ _ q)
  rw [List.append_nil] at b
  refine wpAny_call (codeAny_mono (F.run X.A X.stack s1 H1 ⟨us, []⟩ us vs Q _ hG hr I1.env0 b r q) fun r s' hq => ?_)
  obtain ⟨u, rfl, hq⟩ := hq
  exact I1.after hq
end
end
section
open PySem.Spec PyProof.Rows
section
variable {P : Program} {w : World} {K : PySem.W.Frag} {mg mb : Str → Option Value} {k : Nat} {fa a : Addr} {fd : FuncData} {x : Str} {sp : Sp} {s₁ : Shared} {vs : List Value} {ns : List Int}
/-- how a law's call ends -/
abbrev LawEnd (s₁ : Shared) (r : Result) (s' : Shared) : Prop := r = .ok (.ret (.bool true)) ∧ OldK s₁.heap s'.heap ∧ s'.os = s₁.os ∧ AllBare s'.gens
/-- what is asked of the abstract heap at the law's call: nothing is tracked but the script -/
structure Begin (P : Program) (w : World) (K : PySem.W.Frag) (s₁ : Shared) (a : Addr) (ns : List Int) (H : Hp) : Prop where
  only : Only H
  seq : SqL K H a (ns.map V.int)
  ok : HOk P w H s₁.heap
  one : ∀ b u, H b = some u → b = a
  out : ∀ u, H a = some u → K.lookup a = none
theorem from_begin {H : Hp} (B : Begin P w K s₁ a ns H) (KX : K.In s₁.heap) (hns : s₁.heap.Ns mainGlobals mg) (hb : s₁.heap.Ns builtinsNs mb) (hbb : ∀ x : Str, x ≠ "__name__" → mb x = bootBuiltins x) (hlim : s₁.heap.NoLimit) (hg : s₁.gens = #[])
    (ha : s₁.heap.get? a = some { cls := .type "list", data := .seq vs.toArray }) (hr : Room k callerA)
    (F : ∀ base : Heap, K.In base → base.Ns mainGlobals mg → FnG P w K mg base k fa fd [x] sp) (hbind : ∀ (s : Shared) (u : Value), BindsTo s fd ⟨[u], []⟩ [(x, u)])
    (hsp : sp [.ref a] H (fun v _ => v = .bl true) fun _ _ _ => False) : codeAny (model P w) callerA (.call (.ref fa) ⟨[.ref a], []⟩) (LawEnd s₁) s₁ := by
  have untr : ∀ {b : Addr} {o : Obj}, s₁.heap.get? b = some o → (∀ u, H b ≠ some u) → (hidT s₁.heap H).get? b = some o := fun {b o} e n => hidT_get e (by
    cases q : H b with
    | none => rfl
    | some u => exact absurd q (n u))
  have dicts : ∀ {b : Addr} {m : Str → Option Value}, s₁.heap.Ns b m → (hidT s₁.heap H).Ns b m := fun {b m} hm => by
    obtain ⟨o, es, ep, e, d, r⟩ := hm
    refine ⟨o, es, ep, untr e fun u q => ?_, d, r⟩
    rw [B.one b u q, ha] at e
    cases e
    cases d
  have kin : K.In (hidT s₁.heap H) := fun b o e => untr (KX b o e) fun u q => by
    have eb := B.one b u q
    subst eb
    rw [B.out u q] at e
    cases e
  obtain ⟨mc, l1, l2⟩ := hlim
  have md : Mod K mg (hidT s₁.heap H) := ⟨kin, dicts hns, ⟨mb, dicts hb, hbb⟩, ⟨mc, dicts l1, l2⟩⟩
  have e0 : Env0 P w K mg (hidT s₁.heap H) callerA [] s₁ H := ⟨rfl, md, fun b o e => of_hidT e, Nat.le_of_eq (hidT_size _ _), trivial, fun b z => (by cases z), B.ok, .of_eq hg⟩
  refine codeAny_mono ((F _ kin (dicts hns)).run callerA [] s₁ H ⟨[.ref a], []⟩ [.ref a] [.ref a] _ _ rfl hr e0 (hbind s₁ (.ref a)) (.cons rfl .nil) hsp) fun r s' h => ?_
  obtain ⟨u, rfl, v, H', os, bare, un, hok', rv, q⟩ := h
  subst q
  cases (show u = Value.bool true from rv)
  refine ⟨rfl, OldK.of_keep fun b o e => ?_, os, bare⟩
  rcases B.only b with z | ⟨ob, xs, z⟩
  · exact un.keep b o e z (fun q => by cases q) (by simp)
  · obtain ⟨e1, _⟩ := B.ok b _ z
    obtain ⟨e2, _⟩ := hok' b _ (un.frzs b ob _ z)
    rw [e] at e1
    cases e1
    exact e2
theorem law_callG (KX : K.In s₁.heap) (hns : s₁.heap.Ns mainGlobals mg) (hb : s₁.heap.Ns builtinsNs mb) (hbb : ∀ x : Str, x ≠ "__name__" → mb x = bootBuiltins x) (hlim : s₁.heap.NoLimit) (hg : s₁.gens = #[])
    (ha : s₁.heap.get? a = some { cls := .type "list", data := .seq vs.toArray }) (hi : IntsAre vs ns) (hl : ns.length ≤ sizeLine) (hr : Room k callerA)
    (F : ∀ base : Heap, K.In base → base.Ns mainGlobals mg → FnG P w K mg base k fa fd [x] sp) (hbind : ∀ (s : Shared) (u : Value), BindsTo s fd ⟨[u], []⟩ [(x, u)])
    (hsp : ∀ H : Hp, Only H → SqL K H a (ns.map V.int) → sp [.ref a] H (fun v _ => v = .bl true) fun _ _ _ => False) : codeAny (model P w) callerA (.call (.ref fa) ⟨[.ref a], []⟩) (LawEnd s₁) s₁ := by
  have go : ∀ H, Begin P w K s₁ a ns H → codeAny (model P w) callerA (.call (.ref fa) ⟨[.ref a], []⟩) (LawEnd s₁) s₁ := fun H B => from_begin B KX hns hb hbb hlim hg ha hr F hbind (hsp H B.only B.seq)
  have rv := vals_ints hi
  cases q : K.lookup a with
  | some o =>
    have e := KX a o q
    rw [ha] at e
    cases e
    exact go (fun _ => none) ⟨fun _ => .inl rfl, .inr ⟨_, vs.toArray, _, q, rfl, rfl, rfl, by rw [List.size_toArray, hi.length]; exact hl, by simpa using rv⟩, fun b u z => (by cases z), fun b u z => (by cases z), fun u z => (by cases z)⟩
  | none =>
    have here : ∀ b u, (if b = a then some (HO.frz { cls := .type "list", data := .seq vs.toArray } (.lst (ns.map V.int))) else none) = some u → b = a ∧ u = .frz { cls := .type "list", data := .seq vs.toArray } (.lst (ns.map V.int)) := fun b u z => by
      by_cases hb : b = a
      · rw [if_pos hb] at z
        exact ⟨hb, (Option.some.inj z).symm⟩
      · rw [if_neg hb] at z
        cases z
    refine go (fun b => if b = a then some (.frz { cls := .type "list", data := .seq vs.toArray } (.lst (ns.map V.int))) else none) ⟨fun b => ?_, .inl (.inr ⟨_, if_pos rfl⟩), fun b u z => ?_, fun b u z => (here b u z).1, fun _ _ => q⟩
    · by_cases hb : b = a
      · exact .inr ⟨_, _, if_pos hb⟩
      · exact .inl (if_neg hb)
    · obtain ⟨rfl, rfl⟩ := here b u z
      exact ⟨ha, by rw [List.length_map]; exact hl, vs, _, rv, ha⟩
end
theorem walkG {l : PySem.W.OpenLaw} {n k : Nat} {q : Program} {loose : List Str} {XP : (Str → Option Value) → Heap → Prop} {YP : World → Heap → Prop} {d : DefRec} {K : Params → PySem.W.Frag} {sp : World → Sp} {x : Str}
    (hn : l.most = some n) (hn2 : n ≤ sizeLine) (hdf : d.params.defaults = []) (hr : Room k callerA) (hY : ∀ (w : World) (h : Heap), YP w h → (K w.params).In h)
    (F : ∀ (w : World) (mg : Str → Option Value) (fa : Addr) (h : Heap), (K w.params).In h → h.Ns mainGlobals mg → mg d.name = some (.ref fa) →
      ∃ fd : FuncData, (∀ (s : Shared) (u : Value), BindsTo s fd ⟨[u], []⟩ [(x, u)]) ∧ ∀ base : Heap, (K w.params).In base → base.Ns mainGlobals mg → FnG l.prog w (K w.params) mg base k fa fd [x] (sp w))
    (hsp : ∀ (w : World) (H : Hp) (a : Addr) (ns : List Int), ns.length ≤ n → Only H → SqL (K w.params) H a (ns.map V.int) → sp w [.ref a] H (fun v _ => v = .bl true) fun _ _ _ => False) :
    PySem.W.WalkO q loose XP YP l.row.toRowW d [] (fun f vs => PySem.call f vs) := by
  refine Att.attach_call hn hdf fun w s₀ s₁ mg mb fa o pm cd doc a vs ns G Y ho hd hcd hmg hobj hints hlen hg => ?_
  obtain ⟨fd, hb, hF⟩ := F w mg fa _ (hY w _ Y) G.T.g hmg
  exact law_callG (hY w _ Y) G.T.g G.T.b G.T.builtins G.T.nolimit hg hobj hints (Nat.le_trans hlen hn2) hr hF hb fun H hO hS => hsp w H a ns hlen hO hS
end
section
variable {P : Program} {w : World} {K : PySem.W.Frag} {mg : Str → Option Value} {base : Heap} {A : Ad}
theorem ok_law_cell (T : Top K mg A) : FnOk P w K mg base CX0 1 A.a_law_cell A.fd_law_cell ["script", "k"] (U.spCell K) := by
  refine T.F_law_cell.ok sc_law_cell (fun vs H Q E h => ?_) (fun cdv A outer s H vs Q E hr h => ?_)
  · obtain ⟨a, ns, k, rfl, _⟩ := h
    rfl
  · obtain ⟨a, ns, k, rfl, hS, hl, h0, h1, q⟩ := h
    refine ⟨_, (pss_one (ps_ret (pe_ifExp (pt_cmpR U.uLt (pv 1) (pe_callB (U.uLen (K := K) rfl) (by rfl) T.n_len (by decide +kernel) (pa_cons (pv 0) pa_nil)) (nomark _)) (pe_ix (U.uIx (K := K) rfl) (pv 0) (pv 1) (fun _ _ => rfl)) (pe_op U.uAdd (pe_op U.uAdd (pe_op U.uMul pe_int (pv 1)) pe_int) (pe_op op_mod (pe_callB (U.uSum (K := K) rfl rfl) (by rfl) T.n_sum (by decide +kernel) (pa_cons (pe_slice (U.uSl (K := K) rfl) (pv 0) po_none (po_some pe_int)) pa_nil)) pe_int))))), ?_⟩
    walk_at "w"
    rw [List.length_map]
    refine U.ifD (fun hk => ?_) (fun hk => ?_)
    · obtain ⟨j, rfl⟩ := Int.eq_ofNat_of_zero_le h0
      obtain ⟨c, hc⟩ : ∃ c, ns[j]? = some c := ⟨_, List.getElem?_eq_getElem (by omega)⟩
      walk_at "w"
      refine Or.inl ⟨_, _, _, _, rfl, rfl, hS, U.atN j rfl (by rw [List.getElem?_map, hc] <;> rfl), ?_⟩
      exact q _ _ (Same.refl _)
    · walk_at "w"
      refine Or.inr ⟨_, _, rfl, hS, fun p hp => ?_⟩
      obtain ⟨ms, e⟩ := U.cut_map ns none (some 1)
      refine ⟨p, ms, rfl, SqL.of ?_, ?_⟩
      · rw [← e]
        exact upd_same
      · walk_at "w"
        exact q _ _ (U.same_new hp)
theorem ok_law_box (T : Top K mg A) : FnOk P w K mg base CX0 1 A.a_law_box A.fd_law_box ["cell"] spBox := by
  refine T.F_law_box.ok sc_law_box (fun vs H Q E h => ?_) (fun cdv A outer s H vs Q E hr h => ?_)
  · obtain ⟨c, rfl, _⟩ := h
    rfl
  · obtain ⟨c, rfl, q⟩ := h
    refine ⟨_, (pss_one (ps_ret (pe_lst (pa_cons (pe_callB (call_max2 rfl) (by rfl) T.n_max (by decide +kernel) (pa_cons pe_int (pa_cons (pe_op op_sub (pe_callB call_abs (by rfl) T.n_abs (by decide +kernel) (pa_cons (pv 0) pa_nil)) (pe_op op_pow pe_int pe_int)) pa_nil))) (pa_cons (pe_op op_mod (pe_callB call_abs (by rfl) T.n_abs (by decide +kernel) (pa_cons (pv 0) pa_nil)) pe_int) (pa_cons pe_int pa_nil)))))), ?_⟩
    walk_at "w"
    intro p hp
    generalize (if c < 0 then -c else c) = c
    have h1 := Int.emod_nonneg c (show (2147483629 : Int) ≠ 0 by decide)
    have h2 := Int.emod_lt_of_pos c (show (0 : Int) < 2147483629 by decide)
    refine q _ _ hp ⟨_, _, _, upd_same, ?_, h1, by omega, by omega, by omega⟩ (U.same_new hp)
    split <;> omega
theorem ok_law_take (T : Top K mg A) : FnOk P w K mg base CX0 1 A.a_law_take A.fd_law_take ["box", "many"] spTake := by
  refine T.F_law_take.ok sc_law_take (fun vs H Q E h => ?_) (fun cdv A outer s H vs Q E hr h => ?_)
  · obtain ⟨p, m, n, rfl, _⟩ := h
    rfl
  · obtain ⟨p, m, n, rfl, ⟨b0, b1, b2, hp, h0, h1, h2, h3, h4⟩, hn, hm, hm2, q⟩ := h
    refine ⟨_, (pss_cons (ps_if (pt_cmpR U.uGt (pe_ix (U.uIx (K := K) rfl) (pv 0) pe_int (fun _ _ => rfl)) pe_int (nomark _)) (pss_cons (ps_set (i := 2) sc_law_take.nd rfl (Or.inl rfl) (pe_op op_mod (pe_ix (U.uIx (K := K) rfl) (pv 0) pe_int (fun _ _ => rfl)) (pv 1)))
    (pss_cons (ps_asg (pe_op op_fdiv (pe_ix (U.uIx (K := K) rfl) (pv 0) pe_int (fun _ _ => rfl)) (pv 1)) (pg_sub (pv 0) pe_int set_list))
    (pss_one (ps_ret (pv 2))))) pss_nil)
    (pss_cons (ps_asg (pe_op U.uAdd (pe_ix (U.uIx (K := K) rfl) (pv 0) pe_int (fun _ _ => rfl)) pe_int) (pg_sub (pv 0) pe_int set_list))
    (pss_cons (ps_set (i := 3) sc_law_take.nd rfl (Or.inl rfl) (pe_op op_mod (pe_op op_pow (pe_op U.uAdd (pe_op U.uAdd (pe_ix (U.uIx (K := K) rfl) (pv 0) pe_int (fun _ _ => rfl)) (pe_op U.uMul pe_int (pe_ix (U.uIx (K := K) rfl) (pv 0) pe_int (fun _ _ => rfl)))) pe_int) pe_int) pe_int))
    (pss_cons (ps_set (i := 3) sc_law_take.nd rfl (Or.inl rfl) (pe_op op_mod (pe_op op_pow (pe_op U.uAdd (pv 3) (pe_op U.uMul pe_int (pe_ix (U.uIx (K := K) rfl) (pv 0) pe_int (fun _ _ => rfl)))) pe_int) pe_int))
    (pss_one (ps_ret (pe_op op_mod (pe_op op_fdiv (pv 3) pe_int) (pv 1)))))))), ?_⟩
    walk_at "w"
    refine U.ifD (fun hb => ?_) (fun hb => ?_)
    · walk_at "w"
      refine q _ _ (Int.emod_nonneg _ (by omega)) (Int.emod_lt_of_pos _ hm) ⟨_, _, _, upd_same, Int.ediv_nonneg h0 (by omega), h1, h2, h3, by omega⟩ (U.SameBut.refl _ _).upd
    · walk_at "w"
      refine q _ _ (Int.emod_nonneg _ (by omega)) (Int.emod_lt_of_pos _ hm) ⟨_, _, _, upd_same, h0, h1, h2, by omega, ?_⟩ (U.SameBut.refl _ _).upd
      show b2 + 1 ≤ ((n + 1 : Nat) : Int)
      omega
end
section
variable {P : Program} {w : World} {K : PySem.W.Frag} {mg : Str → Option Value} {base : Heap} {A : Ad}
/-- the classes in the law's order -/
def clss (A : Ad) : List Addr := [A.c_BadText, A.c_Twice, A.c_BadName, A.c_BadFilling, A.c_BadLine, A.c_Unknown, A.c_BadMacro, A.c_BadTree, A.c_BadPlace, A.c_BadKnot, A.c_BadKind, A.c_BadForm, A.c_BadDeeds, A.c_BadWeight, A.c_BadUnits, A.c_BadBudget, A.c_BadStep, A.c_TooMany, A.c_NoSuch, A.c_ByZero, A.c_NoKind, A.c_NothingToUndo, A.c_NothingToRedo]
/-- their fields -/
def flds : List Str := ["at", "name", "name", "name", "number", "name", "name", "given", "given", "given", "given", "number", "given", "given", "given", "given", "given", "count", "name"]
def spIni (K : PySem.W.Frag) (C : Addr) (fl : Str) : Sp := fun vs H Q _ => ∃ (a : Addr) (v : V), vs = [.ref a, v] ∧ OexC K C ∧ PySem.W.findIn K (.ref C) fl = some none ∧ H a = some (exo a C none) ∧ ∀ dx, H dx = none → dx ≠ a → Q .non (upd (upd H dx (exd dx [(fl, v)])) a (exo a C (some dx)))
theorem ok_BadText_init (T : Top K mg A) : FnOk P w K mg base CX0 1 A.a_BadText_init A.fd_BadText_init ["self", "at"] (spIni K A.c_BadText "at") := by
  refine T.F_BadText_init.ok sc_BadText_init (fun vs H Q E h => ?_) (fun cdv A outer s H vs Q E hr h => ?_)
  · obtain ⟨a, v, rfl, _⟩ := h
    rfl
  · obtain ⟨a, v, rfl, hC, hn, ha, k⟩ := h
    refine ⟨_, (pss_one (ps_ost (pv 0) (pv 1))), ?_⟩
    walk_at "w"
    exact ⟨a, _, rfl, hC, hn, .inl ⟨ha, k⟩⟩
theorem ok_Twice_init (T : Top K mg A) : FnOk P w K mg base CX0 1 A.a_Twice_init A.fd_Twice_init ["self", "name"] (spIni K A.c_Twice "name") := by
  refine T.F_Twice_init.ok sc_Twice_init (fun vs H Q E h => ?_) (fun cdv A outer s H vs Q E hr h => ?_)
  · obtain ⟨a, v, rfl, _⟩ := h
    rfl
  · obtain ⟨a, v, rfl, hC, hn, ha, k⟩ := h
    refine ⟨_, (pss_one (ps_ost (pv 0) (pv 1))), ?_⟩
    walk_at "w"
    exact ⟨a, _, rfl, hC, hn, .inl ⟨ha, k⟩⟩
theorem ok_BadName_init (T : Top K mg A) : FnOk P w K mg base CX0 1 A.a_BadName_init A.fd_BadName_init ["self", "name"] (spIni K A.c_BadName "name") := by
  refine T.F_BadName_init.ok sc_BadName_init (fun vs H Q E h => ?_) (fun cdv A outer s H vs Q E hr h => ?_)
  · obtain ⟨a, v, rfl, _⟩ := h
    rfl
  · obtain ⟨a, v, rfl, hC, hn, ha, k⟩ := h
    refine ⟨_, (pss_one (ps_ost (pv 0) (pv 1))), ?_⟩
    walk_at "w"
    exact ⟨a, _, rfl, hC, hn, .inl ⟨ha, k⟩⟩
theorem ok_BadFilling_init (T : Top K mg A) : FnOk P w K mg base CX0 1 A.a_BadFilling_init A.fd_BadFilling_init ["self", "name"] (spIni K A.c_BadFilling "name") := by
  refine T.F_BadFilling_init.ok sc_BadFilling_init (fun vs H Q E h => ?_) (fun cdv A outer s H vs Q E hr h => ?_)
  · obtain ⟨a, v, rfl, _⟩ := h
    rfl
  · obtain ⟨a, v, rfl, hC, hn, ha, k⟩ := h
    refine ⟨_, (pss_one (ps_ost (pv 0) (pv 1))), ?_⟩
    walk_at "w"
    exact ⟨a, _, rfl, hC, hn, .inl ⟨ha, k⟩⟩
theorem ok_BadLine_init (T : Top K mg A) : FnOk P w K mg base CX0 1 A.a_BadLine_init A.fd_BadLine_init ["self", "number"] (spIni K A.c_BadLine "number") := by
  refine T.F_BadLine_init.ok sc_BadLine_init (fun vs H Q E h => ?_) (fun cdv A outer s H vs Q E hr h => ?_)
  · obtain ⟨a, v, rfl, _⟩ := h
    rfl
  · obtain ⟨a, v, rfl, hC, hn, ha, k⟩ := h
    refine ⟨_, (pss_one (ps_ost (pv 0) (pv 1))), ?_⟩
    walk_at "w"
    exact ⟨a, _, rfl, hC, hn, .inl ⟨ha, k⟩⟩
theorem ok_Unknown_init (T : Top K mg A) : FnOk P w K mg base CX0 1 A.a_Unknown_init A.fd_Unknown_init ["self", "name"] (spIni K A.c_Unknown "name") := by
  refine T.F_Unknown_init.ok sc_Unknown_init (fun vs H Q E h => ?_) (fun cdv A outer s H vs Q E hr h => ?_)
  · obtain ⟨a, v, rfl, _⟩ := h
    rfl
  · obtain ⟨a, v, rfl, hC, hn, ha, k⟩ := h
    refine ⟨_, (pss_one (ps_ost (pv 0) (pv 1))), ?_⟩
    walk_at "w"
    exact ⟨a, _, rfl, hC, hn, .inl ⟨ha, k⟩⟩
theorem ok_BadMacro_init (T : Top K mg A) : FnOk P w K mg base CX0 1 A.a_BadMacro_init A.fd_BadMacro_init ["self", "name"] (spIni K A.c_BadMacro "name") := by
  refine T.F_BadMacro_init.ok sc_BadMacro_init (fun vs H Q E h => ?_) (fun cdv A outer s H vs Q E hr h => ?_)
  · obtain ⟨a, v, rfl, _⟩ := h
    rfl
  · obtain ⟨a, v, rfl, hC, hn, ha, k⟩ := h
    refine ⟨_, (pss_one (ps_ost (pv 0) (pv 1))), ?_⟩
    walk_at "w"
    exact ⟨a, _, rfl, hC, hn, .inl ⟨ha, k⟩⟩
theorem ok_BadTree_init (T : Top K mg A) : FnOk P w K mg base CX0 1 A.a_BadTree_init A.fd_BadTree_init ["self", "given"] (spIni K A.c_BadTree "given") := by
  refine T.F_BadTree_init.ok sc_BadTree_init (fun vs H Q E h => ?_) (fun cdv A outer s H vs Q E hr h => ?_)
  · obtain ⟨a, v, rfl, _⟩ := h
    rfl
  · obtain ⟨a, v, rfl, hC, hn, ha, k⟩ := h
    refine ⟨_, (pss_one (ps_ost (pv 0) (pv 1))), ?_⟩
    walk_at "w"
    exact ⟨a, _, rfl, hC, hn, .inl ⟨ha, k⟩⟩
theorem ok_BadPlace_init (T : Top K mg A) : FnOk P w K mg base CX0 1 A.a_BadPlace_init A.fd_BadPlace_init ["self", "given"] (spIni K A.c_BadPlace "given") := by
  refine T.F_BadPlace_init.ok sc_BadPlace_init (fun vs H Q E h => ?_) (fun cdv A outer s H vs Q E hr h => ?_)
  · obtain ⟨a, v, rfl, _⟩ := h
    rfl
  · obtain ⟨a, v, rfl, hC, hn, ha, k⟩ := h
    refine ⟨_, (pss_one (ps_ost (pv 0) (pv 1))), ?_⟩
    walk_at "w"
    exact ⟨a, _, rfl, hC, hn, .inl ⟨ha, k⟩⟩
theorem ok_BadKnot_init (T : Top K mg A) : FnOk P w K mg base CX0 1 A.a_BadKnot_init A.fd_BadKnot_init ["self", "given"] (spIni K A.c_BadKnot "given") := by
  refine T.F_BadKnot_init.ok sc_BadKnot_init (fun vs H Q E h => ?_) (fun cdv A outer s H vs Q E hr h => ?_)
  · obtain ⟨a, v, rfl, _⟩ := h
    rfl
  · obtain ⟨a, v, rfl, hC, hn, ha, k⟩ := h
    refine ⟨_, (pss_one (ps_ost (pv 0) (pv 1))), ?_⟩
    walk_at "w"
    exact ⟨a, _, rfl, hC, hn, .inl ⟨ha, k⟩⟩
theorem ok_BadKind_init (T : Top K mg A) : FnOk P w K mg base CX0 1 A.a_BadKind_init A.fd_BadKind_init ["self", "given"] (spIni K A.c_BadKind "given") := by
  refine T.F_BadKind_init.ok sc_BadKind_init (fun vs H Q E h => ?_) (fun cdv A outer s H vs Q E hr h => ?_)
  · obtain ⟨a, v, rfl, _⟩ := h
    rfl
  · obtain ⟨a, v, rfl, hC, hn, ha, k⟩ := h
    refine ⟨_, (pss_one (ps_ost (pv 0) (pv 1))), ?_⟩
    walk_at "w"
    exact ⟨a, _, rfl, hC, hn, .inl ⟨ha, k⟩⟩
theorem ok_BadForm_init (T : Top K mg A) : FnOk P w K mg base CX0 1 A.a_BadForm_init A.fd_BadForm_init ["self", "number"] (spIni K A.c_BadForm "number") := by
  refine T.F_BadForm_init.ok sc_BadForm_init (fun vs H Q E h => ?_) (fun cdv A outer s H vs Q E hr h => ?_)
  · obtain ⟨a, v, rfl, _⟩ := h
    rfl
  · obtain ⟨a, v, rfl, hC, hn, ha, k⟩ := h
    refine ⟨_, (pss_one (ps_ost (pv 0) (pv 1))), ?_⟩
    walk_at "w"
    exact ⟨a, _, rfl, hC, hn, .inl ⟨ha, k⟩⟩
theorem ok_BadDeeds_init (T : Top K mg A) : FnOk P w K mg base CX0 1 A.a_BadDeeds_init A.fd_BadDeeds_init ["self", "given"] (spIni K A.c_BadDeeds "given") := by
  refine T.F_BadDeeds_init.ok sc_BadDeeds_init (fun vs H Q E h => ?_) (fun cdv A outer s H vs Q E hr h => ?_)
  · obtain ⟨a, v, rfl, _⟩ := h
    rfl
  · obtain ⟨a, v, rfl, hC, hn, ha, k⟩ := h
    refine ⟨_, (pss_one (ps_ost (pv 0) (pv 1))), ?_⟩
    walk_at "w"
    exact ⟨a, _, rfl, hC, hn, .inl ⟨ha, k⟩⟩
theorem ok_BadWeight_init (T : Top K mg A) : FnOk P w K mg base CX0 1 A.a_BadWeight_init A.fd_BadWeight_init ["self", "given"] (spIni K A.c_BadWeight "given") := by
  refine T.F_BadWeight_init.ok sc_BadWeight_init (fun vs H Q E h => ?_) (fun cdv A outer s H vs Q E hr h => ?_)
  · obtain ⟨a, v, rfl, _⟩ := h
    rfl
  · obtain ⟨a, v, rfl, hC, hn, ha, k⟩ := h
    refine ⟨_, (pss_one (ps_ost (pv 0) (pv 1))), ?_⟩
    walk_at "w"
    exact ⟨a, _, rfl, hC, hn, .inl ⟨ha, k⟩⟩
theorem ok_BadUnits_init (T : Top K mg A) : FnOk P w K mg base CX0 1 A.a_BadUnits_init A.fd_BadUnits_init ["self", "given"] (spIni K A.c_BadUnits "given") := by
  refine T.F_BadUnits_init.ok sc_BadUnits_init (fun vs H Q E h => ?_) (fun cdv A outer s H vs Q E hr h => ?_)
  · obtain ⟨a, v, rfl, _⟩ := h
    rfl
  · obtain ⟨a, v, rfl, hC, hn, ha, k⟩ := h
    refine ⟨_, (pss_one (ps_ost (pv 0) (pv 1))), ?_⟩
    walk_at "w"
    exact ⟨a, _, rfl, hC, hn, .inl ⟨ha, k⟩⟩
theorem ok_BadBudget_init (T : Top K mg A) : FnOk P w K mg base CX0 1 A.a_BadBudget_init A.fd_BadBudget_init ["self", "given"] (spIni K A.c_BadBudget "given") := by
  refine T.F_BadBudget_init.ok sc_BadBudget_init (fun vs H Q E h => ?_) (fun cdv A outer s H vs Q E hr h => ?_)
  · obtain ⟨a, v, rfl, _⟩ := h
    rfl
  · obtain ⟨a, v, rfl, hC, hn, ha, k⟩ := h
    refine ⟨_, (pss_one (ps_ost (pv 0) (pv 1))), ?_⟩
    walk_at "w"
    exact ⟨a, _, rfl, hC, hn, .inl ⟨ha, k⟩⟩
theorem ok_BadStep_init (T : Top K mg A) : FnOk P w K mg base CX0 1 A.a_BadStep_init A.fd_BadStep_init ["self", "given"] (spIni K A.c_BadStep "given") := by
  refine T.F_BadStep_init.ok sc_BadStep_init (fun vs H Q E h => ?_) (fun cdv A outer s H vs Q E hr h => ?_)
  · obtain ⟨a, v, rfl, _⟩ := h
    rfl
  · obtain ⟨a, v, rfl, hC, hn, ha, k⟩ := h
    refine ⟨_, (pss_one (ps_ost (pv 0) (pv 1))), ?_⟩
    walk_at "w"
    exact ⟨a, _, rfl, hC, hn, .inl ⟨ha, k⟩⟩
theorem ok_TooMany_init (T : Top K mg A) : FnOk P w K mg base CX0 1 A.a_TooMany_init A.fd_TooMany_init ["self", "count"] (spIni K A.c_TooMany "count") := by
  refine T.F_TooMany_init.ok sc_TooMany_init (fun vs H Q E h => ?_) (fun cdv A outer s H vs Q E hr h => ?_)
  · obtain ⟨a, v, rfl, _⟩ := h
    rfl
  · obtain ⟨a, v, rfl, hC, hn, ha, k⟩ := h
    refine ⟨_, (pss_one (ps_ost (pv 0) (pv 1))), ?_⟩
    walk_at "w"
    exact ⟨a, _, rfl, hC, hn, .inl ⟨ha, k⟩⟩
theorem ok_NoSuch_init (T : Top K mg A) : FnOk P w K mg base CX0 1 A.a_NoSuch_init A.fd_NoSuch_init ["self", "name"] (spIni K A.c_NoSuch "name") := by
  refine T.F_NoSuch_init.ok sc_NoSuch_init (fun vs H Q E h => ?_) (fun cdv A outer s H vs Q E hr h => ?_)
  · obtain ⟨a, v, rfl, _⟩ := h
    rfl
  · obtain ⟨a, v, rfl, hC, hn, ha, k⟩ := h
    refine ⟨_, (pss_one (ps_ost (pv 0) (pv 1))), ?_⟩
    walk_at "w"
    exact ⟨a, _, rfl, hC, hn, .inl ⟨ha, k⟩⟩
/-- an own exception's class: its way up -/
def ClsOk (K : PySem.W.Frag) (KE C : Addr) : Prop := ExcC K C ∧ ∃ cd, PySem.W.clsIn K C = some cd ∧ cd.mro = [.ref C, .ref KE, .type "ValueError", .type "Exception", .type "BaseException", .type "object"]
theorem sub_of {KE C : Addr} {v : Value} (h : ClsOk K KE C) : PySem.W.subIn K (.ref C) v = some ([Value.ref C, .ref KE, .type "ValueError", .type "Exception", .type "BaseException", .type "object"].contains v) := by
  obtain ⟨_, cd, e, m⟩ := h
  show PySem.W.mroIn K C v = _
  unfold PySem.W.mroIn
  rw [e]
  show (if cd.mro.isEmpty then none else some (cd.mro.contains v)) = _
  rw [m]
  rfl
theorem kitC {D C : Addr} {b : Bool} (ne : D ≠ C) (ic : ∃ cd, PySem.W.clsIn K C = some cd) (ty : PySem.W.typeIn K (.ref C) = some (.type "type")) (h : PySem.W.subIn K (.ref D) (.ref C) = some b) : PySem.W.kitOne K (.ref D) (.ref C) = some b := by
  obtain ⟨cd, hc⟩ := ic
  have e1 : ((PySem.W.clsIn K C).isSome && PySem.W.typeIn K (.ref C) == some (.type "type")) = true := by
    rw [hc, ty] <;> rfl
  have n1 : ¬ (Value.ref D == Value.ref C) = true := fun q => ne (by injection beq_iff_eq.mp q)
  unfold PySem.W.kitOne
  rw [if_neg n1]
  show (if _ then _ else _) = _
  rw [if_pos e1]
  exact h
theorem kit_self {v : Value} : PySem.W.kitOne K v v = some true := by
  unfold PySem.W.kitOne
  rw [if_pos (beq_iff_eq.mpr rfl)]
/-- isinstance of an own exception against an own class -/
theorem kitE {KE D C : Addr} (hD : ClsOk K KE D) (hC : ∃ cd, PySem.W.clsIn K C = some cd) (ty : PySem.W.typeIn K (.ref C) = some (.type "type")) (ne : KE ≠ C) : PySem.W.kitOne K (.ref D) (.ref C) = some (decide (D = C)) := by
  by_cases h : D = C
  · subst h
    rw [decide_eq_true rfl]
    exact kit_self
  · refine kitC h hC ty ?_
    rw [sub_of hD, decide_eq_false h]
    refine congrArg some (Bool.eq_false_iff.mpr fun q => ?_)
    have q := List.contains_iff_mem.mp q
    simp at q
    rcases q with q | q
    · exact h q.symm
    · exact ne q.symm
theorem kitK {KE D : Addr} (hD : ClsOk K KE D) (hC : ∃ cd, PySem.W.clsIn K KE = some cd) (ty : PySem.W.typeIn K (.ref KE) = some (.type "type")) (ne : D ≠ KE) : PySem.W.kitOne K (.ref D) (.ref KE) = some true := by
  refine kitC ne hC ty ?_
  rw [sub_of hD]
  refine congrArg some (List.contains_iff_mem.mpr (by simp))
theorem kitV {KE D : Addr} (hD : ClsOk K KE D) : PySem.W.kitOne K (.ref D) (.type "ValueError") = some true := by
  unfold PySem.W.kitOne
  rw [if_neg (fun q => by cases beq_iff_eq.mp q)]
  show (if PySem.W.kitMeta "ValueError" = true then PySem.W.subIn K (.ref D) (.type "ValueError") else none) = some true
  rw [if_pos (by decide +kernel), sub_of hD]
  refine congrArg some (List.contains_iff_mem.mpr (by simp))
end
section
variable {P : Program} {w : World} {K : PySem.W.Frag} {mg : Str → Option Value} {base : Heap} {A : Ad}
theorem co_BadText (T : Top K mg A) : ClsOk K A.c_KindError A.c_BadText := ⟨T.ec_BadText, T.cl_BadText⟩
theorem ki_BadText (T : Top K mg A) {D : Addr} (hD : ClsOk K A.c_KindError D) : PySem.W.kitOne K (.ref D) (.ref A.c_BadText) = some (decide (D = A.c_BadText)) :=
  kitE hD ⟨_, T.cl_BadText.choose_spec.1⟩ T.ty_BadText (by
    have h := T.nd
    simp only [List.nodup_cons, List.mem_cons, not_or] at h
    simp_all)
theorem co_Twice (T : Top K mg A) : ClsOk K A.c_KindError A.c_Twice := ⟨T.ec_Twice, T.cl_Twice⟩
theorem ki_Twice (T : Top K mg A) {D : Addr} (hD : ClsOk K A.c_KindError D) : PySem.W.kitOne K (.ref D) (.ref A.c_Twice) = some (decide (D = A.c_Twice)) :=
  kitE hD ⟨_, T.cl_Twice.choose_spec.1⟩ T.ty_Twice (by
    have h := T.nd
    simp only [List.nodup_cons, List.mem_cons, not_or] at h
    simp_all)
theorem co_BadName (T : Top K mg A) : ClsOk K A.c_KindError A.c_BadName := ⟨T.ec_BadName, T.cl_BadName⟩
theorem ki_BadName (T : Top K mg A) {D : Addr} (hD : ClsOk K A.c_KindError D) : PySem.W.kitOne K (.ref D) (.ref A.c_BadName) = some (decide (D = A.c_BadName)) :=
  kitE hD ⟨_, T.cl_BadName.choose_spec.1⟩ T.ty_BadName (by
    have h := T.nd
    simp only [List.nodup_cons, List.mem_cons, not_or] at h
    simp_all)
theorem co_BadFilling (T : Top K mg A) : ClsOk K A.c_KindError A.c_BadFilling := ⟨T.ec_BadFilling, T.cl_BadFilling⟩
theorem ki_BadFilling (T : Top K mg A) {D : Addr} (hD : ClsOk K A.c_KindError D) : PySem.W.kitOne K (.ref D) (.ref A.c_BadFilling) = some (decide (D = A.c_BadFilling)) :=
  kitE hD ⟨_, T.cl_BadFilling.choose_spec.1⟩ T.ty_BadFilling (by
    have h := T.nd
    simp only [List.nodup_cons, List.mem_cons, not_or] at h
    simp_all)
theorem co_BadLine (T : Top K mg A) : ClsOk K A.c_KindError A.c_BadLine := ⟨T.ec_BadLine, T.cl_BadLine⟩
theorem ki_BadLine (T : Top K mg A) {D : Addr} (hD : ClsOk K A.c_KindError D) : PySem.W.kitOne K (.ref D) (.ref A.c_BadLine) = some (decide (D = A.c_BadLine)) :=
  kitE hD ⟨_, T.cl_BadLine.choose_spec.1⟩ T.ty_BadLine (by
    have h := T.nd
    simp only [List.nodup_cons, List.mem_cons, not_or] at h
    simp_all)
theorem co_Unknown (T : Top K mg A) : ClsOk K A.c_KindError A.c_Unknown := ⟨T.ec_Unknown, T.cl_Unknown⟩
theorem ki_Unknown (T : Top K mg A) {D : Addr} (hD : ClsOk K A.c_KindError D) : PySem.W.kitOne K (.ref D) (.ref A.c_Unknown) = some (decide (D = A.c_Unknown)) :=
  kitE hD ⟨_, T.cl_Unknown.choose_spec.1⟩ T.ty_Unknown (by
    have h := T.nd
    simp only [List.nodup_cons, List.mem_cons, not_or] at h
    simp_all)
theorem co_BadMacro (T : Top K mg A) : ClsOk K A.c_KindError A.c_BadMacro := ⟨T.ec_BadMacro, T.cl_BadMacro⟩
theorem ki_BadMacro (T : Top K mg A) {D : Addr} (hD : ClsOk K A.c_KindError D) : PySem.W.kitOne K (.ref D) (.ref A.c_BadMacro) = some (decide (D = A.c_BadMacro)) :=
  kitE hD ⟨_, T.cl_BadMacro.choose_spec.1⟩ T.ty_BadMacro (by
    have h := T.nd
    simp only [List.nodup_cons, List.mem_cons, not_or] at h
    simp_all)
theorem co_BadTree (T : Top K mg A) : ClsOk K A.c_KindError A.c_BadTree := ⟨T.ec_BadTree, T.cl_BadTree⟩
theorem ki_BadTree (T : Top K mg A) {D : Addr} (hD : ClsOk K A.c_KindError D) : PySem.W.kitOne K (.ref D) (.ref A.c_BadTree) = some (decide (D = A.c_BadTree)) :=
  kitE hD ⟨_, T.cl_BadTree.choose_spec.1⟩ T.ty_BadTree (by
    have h := T.nd
    simp only [List.nodup_cons, List.mem_cons, not_or] at h
    simp_all)
theorem co_BadPlace (T : Top K mg A) : ClsOk K A.c_KindError A.c_BadPlace := ⟨T.ec_BadPlace, T.cl_BadPlace⟩
theorem ki_BadPlace (T : Top K mg A) {D : Addr} (hD : ClsOk K A.c_KindError D) : PySem.W.kitOne K (.ref D) (.ref A.c_BadPlace) = some (decide (D = A.c_BadPlace)) :=
  kitE hD ⟨_, T.cl_BadPlace.choose_spec.1⟩ T.ty_BadPlace (by
    have h := T.nd
    simp only [List.nodup_cons, List.mem_cons, not_or] at h
    simp_all)
theorem co_BadKnot (T : Top K mg A) : ClsOk K A.c_KindError A.c_BadKnot := ⟨T.ec_BadKnot, T.cl_BadKnot⟩
theorem ki_BadKnot (T : Top K mg A) {D : Addr} (hD : ClsOk K A.c_KindError D) : PySem.W.kitOne K (.ref D) (.ref A.c_BadKnot) = some (decide (D = A.c_BadKnot)) :=
  kitE hD ⟨_, T.cl_BadKnot.choose_spec.1⟩ T.ty_BadKnot (by
    have h := T.nd
    simp only [List.nodup_cons, List.mem_cons, not_or] at h
    simp_all)
theorem co_BadKind (T : Top K mg A) : ClsOk K A.c_KindError A.c_BadKind := ⟨T.ec_BadKind, T.cl_BadKind⟩
theorem ki_BadKind (T : Top K mg A) {D : Addr} (hD : ClsOk K A.c_KindError D) : PySem.W.kitOne K (.ref D) (.ref A.c_BadKind) = some (decide (D = A.c_BadKind)) :=
  kitE hD ⟨_, T.cl_BadKind.choose_spec.1⟩ T.ty_BadKind (by
    have h := T.nd
    simp only [List.nodup_cons, List.mem_cons, not_or] at h
    simp_all)
theorem co_BadForm (T : Top K mg A) : ClsOk K A.c_KindError A.c_BadForm := ⟨T.ec_BadForm, T.cl_BadForm⟩
theorem ki_BadForm (T : Top K mg A) {D : Addr} (hD : ClsOk K A.c_KindError D) : PySem.W.kitOne K (.ref D) (.ref A.c_BadForm) = some (decide (D = A.c_BadForm)) :=
  kitE hD ⟨_, T.cl_BadForm.choose_spec.1⟩ T.ty_BadForm (by
    have h := T.nd
    simp only [List.nodup_cons, List.mem_cons, not_or] at h
    simp_all)
theorem co_BadDeeds (T : Top K mg A) : ClsOk K A.c_KindError A.c_BadDeeds := ⟨T.ec_BadDeeds, T.cl_BadDeeds⟩
theorem ki_BadDeeds (T : Top K mg A) {D : Addr} (hD : ClsOk K A.c_KindError D) : PySem.W.kitOne K (.ref D) (.ref A.c_BadDeeds) = some (decide (D = A.c_BadDeeds)) :=
  kitE hD ⟨_, T.cl_BadDeeds.choose_spec.1⟩ T.ty_BadDeeds (by
    have h := T.nd
    simp only [List.nodup_cons, List.mem_cons, not_or] at h
    simp_all)
theorem co_BadWeight (T : Top K mg A) : ClsOk K A.c_KindError A.c_BadWeight := ⟨T.ec_BadWeight, T.cl_BadWeight⟩
theorem ki_BadWeight (T : Top K mg A) {D : Addr} (hD : ClsOk K A.c_KindError D) : PySem.W.kitOne K (.ref D) (.ref A.c_BadWeight) = some (decide (D = A.c_BadWeight)) :=
  kitE hD ⟨_, T.cl_BadWeight.choose_spec.1⟩ T.ty_BadWeight (by
    have h := T.nd
    simp only [List.nodup_cons, List.mem_cons, not_or] at h
    simp_all)
theorem co_BadUnits (T : Top K mg A) : ClsOk K A.c_KindError A.c_BadUnits := ⟨T.ec_BadUnits, T.cl_BadUnits⟩
theorem ki_BadUnits (T : Top K mg A) {D : Addr} (hD : ClsOk K A.c_KindError D) : PySem.W.kitOne K (.ref D) (.ref A.c_BadUnits) = some (decide (D = A.c_BadUnits)) :=
  kitE hD ⟨_, T.cl_BadUnits.choose_spec.1⟩ T.ty_BadUnits (by
    have h := T.nd
    simp only [List.nodup_cons, List.mem_cons, not_or] at h
    simp_all)
theorem co_BadBudget (T : Top K mg A) : ClsOk K A.c_KindError A.c_BadBudget := ⟨T.ec_BadBudget, T.cl_BadBudget⟩
theorem ki_BadBudget (T : Top K mg A) {D : Addr} (hD : ClsOk K A.c_KindError D) : PySem.W.kitOne K (.ref D) (.ref A.c_BadBudget) = some (decide (D = A.c_BadBudget)) :=
  kitE hD ⟨_, T.cl_BadBudget.choose_spec.1⟩ T.ty_BadBudget (by
    have h := T.nd
    simp only [List.nodup_cons, List.mem_cons, not_or] at h
    simp_all)
theorem co_BadStep (T : Top K mg A) : ClsOk K A.c_KindError A.c_BadStep := ⟨T.ec_BadStep, T.cl_BadStep⟩
theorem ki_BadStep (T : Top K mg A) {D : Addr} (hD : ClsOk K A.c_KindError D) : PySem.W.kitOne K (.ref D) (.ref A.c_BadStep) = some (decide (D = A.c_BadStep)) :=
  kitE hD ⟨_, T.cl_BadStep.choose_spec.1⟩ T.ty_BadStep (by
    have h := T.nd
    simp only [List.nodup_cons, List.mem_cons, not_or] at h
    simp_all)
theorem co_TooMany (T : Top K mg A) : ClsOk K A.c_KindError A.c_TooMany := ⟨T.ec_TooMany, T.cl_TooMany⟩
theorem ki_TooMany (T : Top K mg A) {D : Addr} (hD : ClsOk K A.c_KindError D) : PySem.W.kitOne K (.ref D) (.ref A.c_TooMany) = some (decide (D = A.c_TooMany)) :=
  kitE hD ⟨_, T.cl_TooMany.choose_spec.1⟩ T.ty_TooMany (by
    have h := T.nd
    simp only [List.nodup_cons, List.mem_cons, not_or] at h
    simp_all)
theorem co_NoSuch (T : Top K mg A) : ClsOk K A.c_KindError A.c_NoSuch := ⟨T.ec_NoSuch, T.cl_NoSuch⟩
theorem ki_NoSuch (T : Top K mg A) {D : Addr} (hD : ClsOk K A.c_KindError D) : PySem.W.kitOne K (.ref D) (.ref A.c_NoSuch) = some (decide (D = A.c_NoSuch)) :=
  kitE hD ⟨_, T.cl_NoSuch.choose_spec.1⟩ T.ty_NoSuch (by
    have h := T.nd
    simp only [List.nodup_cons, List.mem_cons, not_or] at h
    simp_all)
theorem co_ByZero (T : Top K mg A) : ClsOk K A.c_KindError A.c_ByZero := ⟨T.ec_ByZero, T.cl_ByZero⟩
theorem ki_ByZero (T : Top K mg A) {D : Addr} (hD : ClsOk K A.c_KindError D) : PySem.W.kitOne K (.ref D) (.ref A.c_ByZero) = some (decide (D = A.c_ByZero)) :=
  kitE hD ⟨_, T.cl_ByZero.choose_spec.1⟩ T.ty_ByZero (by
    have h := T.nd
    simp only [List.nodup_cons, List.mem_cons, not_or] at h
    simp_all)
theorem co_NoKind (T : Top K mg A) : ClsOk K A.c_KindError A.c_NoKind := ⟨T.ec_NoKind, T.cl_NoKind⟩
theorem ki_NoKind (T : Top K mg A) {D : Addr} (hD : ClsOk K A.c_KindError D) : PySem.W.kitOne K (.ref D) (.ref A.c_NoKind) = some (decide (D = A.c_NoKind)) :=
  kitE hD ⟨_, T.cl_NoKind.choose_spec.1⟩ T.ty_NoKind (by
    have h := T.nd
    simp only [List.nodup_cons, List.mem_cons, not_or] at h
    simp_all)
theorem co_NothingToUndo (T : Top K mg A) : ClsOk K A.c_KindError A.c_NothingToUndo := ⟨T.ec_NothingToUndo, T.cl_NothingToUndo⟩
theorem ki_NothingToUndo (T : Top K mg A) {D : Addr} (hD : ClsOk K A.c_KindError D) : PySem.W.kitOne K (.ref D) (.ref A.c_NothingToUndo) = some (decide (D = A.c_NothingToUndo)) :=
  kitE hD ⟨_, T.cl_NothingToUndo.choose_spec.1⟩ T.ty_NothingToUndo (by
    have h := T.nd
    simp only [List.nodup_cons, List.mem_cons, not_or] at h
    simp_all)
theorem co_NothingToRedo (T : Top K mg A) : ClsOk K A.c_KindError A.c_NothingToRedo := ⟨T.ec_NothingToRedo, T.cl_NothingToRedo⟩
theorem ki_NothingToRedo (T : Top K mg A) {D : Addr} (hD : ClsOk K A.c_KindError D) : PySem.W.kitOne K (.ref D) (.ref A.c_NothingToRedo) = some (decide (D = A.c_NothingToRedo)) :=
  kitE hD ⟨_, T.cl_NothingToRedo.choose_spec.1⟩ T.ty_NothingToRedo (by
    have h := T.nd
    simp only [List.nodup_cons, List.mem_cons, not_or] at h
    simp_all)
def spClasses (K : PySem.W.Frag) (A : Ad) : Sp := fun vs H Q _ => ∃ (x D : Addr), vs = [.ref x] ∧ ExcAt H x D ∧ ClsOk K A.c_KindError D ∧ ∀ p H', Same H H' → H' p = some (.lst ((clss A).map fun C => .bl (decide (D = C)))) → Q (.ref p) H'
theorem ok_law_classes (T : Top K mg A) : FnOk P w K mg base CX0 3 A.a_law_classes A.fd_law_classes ["e"] (spClasses K A) := by
  refine T.F_law_classes.ok sc_law_classes (fun vs H Q E h => ?_) (fun cdv A' outer s H vs Q E hr h => ?_)
  · obtain ⟨x, D, rfl, _⟩ := h
    rfl
  · obtain ⟨x, D, rfl, hx, hD, k⟩ := h
    refine ⟨_, (pss_cons (ps_set (i := 1) sc_law_classes.nd rfl (Or.inl rfl) (pe_lst (pa_cons (pe_callB (call_isU) (by rfl) T.n_isinstance (by decide +kernel) (pa_cons (pv 0) (pa_cons (pe_glob (v := .ref A.c_BadText) rfl T.m_BadText rfl) pa_nil))) (pa_cons (pe_callB (call_isU) (by rfl) T.n_isinstance (by decide +kernel) (pa_cons (pv 0) (pa_cons (pe_glob (v := .ref A.c_Twice) rfl T.m_Twice rfl) pa_nil))) (pa_cons (pe_callB (call_isU) (by rfl) T.n_isinstance (by decide +kernel) (pa_cons (pv 0) (pa_cons (pe_glob (v := .ref A.c_BadName) rfl T.m_BadName rfl) pa_nil))) (pa_cons (pe_callB (call_isU) (by rfl) T.n_isinstance (by decide +kernel) (pa_cons (pv 0) (pa_cons (pe_glob (v := .ref A.c_BadFilling) rfl T.m_BadFilling rfl) pa_nil))) pa_nil))))))
    (pss_cons (ps_set (i := 1) sc_law_classes.nd rfl (Or.inl rfl) (pe_op U.uAdd (pv 1) (pe_lst (pa_cons (pe_callB (call_isU) (by rfl) T.n_isinstance (by decide +kernel) (pa_cons (pv 0) (pa_cons (pe_glob (v := .ref A.c_BadLine) rfl T.m_BadLine rfl) pa_nil))) (pa_cons (pe_callB (call_isU) (by rfl) T.n_isinstance (by decide +kernel) (pa_cons (pv 0) (pa_cons (pe_glob (v := .ref A.c_Unknown) rfl T.m_Unknown rfl) pa_nil))) (pa_cons (pe_callB (call_isU) (by rfl) T.n_isinstance (by decide +kernel) (pa_cons (pv 0) (pa_cons (pe_glob (v := .ref A.c_BadMacro) rfl T.m_BadMacro rfl) pa_nil))) (pa_cons (pe_callB (call_isU) (by rfl) T.n_isinstance (by decide +kernel) (pa_cons (pv 0) (pa_cons (pe_glob (v := .ref A.c_BadTree) rfl T.m_BadTree rfl) pa_nil))) pa_nil)))))))
    (pss_cons (ps_set (i := 1) sc_law_classes.nd rfl (Or.inl rfl) (pe_op U.uAdd (pv 1) (pe_lst (pa_cons (pe_callB (call_isU) (by rfl) T.n_isinstance (by decide +kernel) (pa_cons (pv 0) (pa_cons (pe_glob (v := .ref A.c_BadPlace) rfl T.m_BadPlace rfl) pa_nil))) (pa_cons (pe_callB (call_isU) (by rfl) T.n_isinstance (by decide +kernel) (pa_cons (pv 0) (pa_cons (pe_glob (v := .ref A.c_BadKnot) rfl T.m_BadKnot rfl) pa_nil))) (pa_cons (pe_callB (call_isU) (by rfl) T.n_isinstance (by decide +kernel) (pa_cons (pv 0) (pa_cons (pe_glob (v := .ref A.c_BadKind) rfl T.m_BadKind rfl) pa_nil))) (pa_cons (pe_callB (call_isU) (by rfl) T.n_isinstance (by decide +kernel) (pa_cons (pv 0) (pa_cons (pe_glob (v := .ref A.c_BadForm) rfl T.m_BadForm rfl) pa_nil))) pa_nil)))))))
    (pss_cons (ps_set (i := 1) sc_law_classes.nd rfl (Or.inl rfl) (pe_op U.uAdd (pv 1) (pe_lst (pa_cons (pe_callB (call_isU) (by rfl) T.n_isinstance (by decide +kernel) (pa_cons (pv 0) (pa_cons (pe_glob (v := .ref A.c_BadDeeds) rfl T.m_BadDeeds rfl) pa_nil))) (pa_cons (pe_callB (call_isU) (by rfl) T.n_isinstance (by decide +kernel) (pa_cons (pv 0) (pa_cons (pe_glob (v := .ref A.c_BadWeight) rfl T.m_BadWeight rfl) pa_nil))) (pa_cons (pe_callB (call_isU) (by rfl) T.n_isinstance (by decide +kernel) (pa_cons (pv 0) (pa_cons (pe_glob (v := .ref A.c_BadUnits) rfl T.m_BadUnits rfl) pa_nil))) pa_nil))))))
    (pss_cons (ps_set (i := 1) sc_law_classes.nd rfl (Or.inl rfl) (pe_op U.uAdd (pv 1) (pe_lst (pa_cons (pe_callB (call_isU) (by rfl) T.n_isinstance (by decide +kernel) (pa_cons (pv 0) (pa_cons (pe_glob (v := .ref A.c_BadBudget) rfl T.m_BadBudget rfl) pa_nil))) (pa_cons (pe_callB (call_isU) (by rfl) T.n_isinstance (by decide +kernel) (pa_cons (pv 0) (pa_cons (pe_glob (v := .ref A.c_BadStep) rfl T.m_BadStep rfl) pa_nil))) (pa_cons (pe_callB (call_isU) (by rfl) T.n_isinstance (by decide +kernel) (pa_cons (pv 0) (pa_cons (pe_glob (v := .ref A.c_TooMany) rfl T.m_TooMany rfl) pa_nil))) (pa_cons (pe_callB (call_isU) (by rfl) T.n_isinstance (by decide +kernel) (pa_cons (pv 0) (pa_cons (pe_glob (v := .ref A.c_NoSuch) rfl T.m_NoSuch rfl) pa_nil))) pa_nil)))))))
    (pss_cons (ps_set (i := 1) sc_law_classes.nd rfl (Or.inl rfl) (pe_op U.uAdd (pv 1) (pe_lst (pa_cons (pe_callB (call_isU) (by rfl) T.n_isinstance (by decide +kernel) (pa_cons (pv 0) (pa_cons (pe_glob (v := .ref A.c_ByZero) rfl T.m_ByZero rfl) pa_nil))) (pa_cons (pe_callB (call_isU) (by rfl) T.n_isinstance (by decide +kernel) (pa_cons (pv 0) (pa_cons (pe_glob (v := .ref A.c_NoKind) rfl T.m_NoKind rfl) pa_nil))) (pa_cons (pe_callB (call_isU) (by rfl) T.n_isinstance (by decide +kernel) (pa_cons (pv 0) (pa_cons (pe_glob (v := .ref A.c_NothingToUndo) rfl T.m_NothingToUndo rfl) pa_nil))) pa_nil))))))
    (pss_one (ps_ret (pe_op U.uAdd (pv 1) (pe_lst (pa_cons (pe_callB (call_isU) (by rfl) T.n_isinstance (by decide +kernel) (pa_cons (pv 0) (pa_cons (pe_glob (v := .ref A.c_NothingToRedo) rfl T.m_NothingToRedo rfl) pa_nil))) pa_nil))))))))))), ?_⟩
    walk_at "w"
    refine Or.inr ⟨x, D, _, _, _, rfl, hx, hD.1, .own _, ki_BadText T hD, ?_⟩
    walk_at "w"
    refine Or.inr ⟨x, D, _, _, _, rfl, hx, hD.1, .own _, ki_Twice T hD, ?_⟩
    walk_at "w"
    refine Or.inr ⟨x, D, _, _, _, rfl, hx, hD.1, .own _, ki_BadName T hD, ?_⟩
    walk_at "w"
    refine Or.inr ⟨x, D, _, _, _, rfl, hx, hD.1, .own _, ki_BadFilling T hD, ?_⟩
    walk_at "w"
    intro p1 np1
    generalize hX1 : upd _ p1 _ = H1
    obtain ⟨s1, g1⟩ := U.newF np1 hX1
    have hx := hx.same s1
    walk_at "w"
    have sA := s1
    have gA := g1
    clear hX1 s1 g1 np1
    refine Or.inr ⟨x, D, _, _, _, rfl, hx, hD.1, .own _, ki_BadLine T hD, ?_⟩
    walk_at "w"
    refine Or.inr ⟨x, D, _, _, _, rfl, hx, hD.1, .own _, ki_Unknown T hD, ?_⟩
    walk_at "w"
    refine Or.inr ⟨x, D, _, _, _, rfl, hx, hD.1, .own _, ki_BadMacro T hD, ?_⟩
    walk_at "w"
    refine Or.inr ⟨x, D, _, _, _, rfl, hx, hD.1, .own _, ki_BadTree T hD, ?_⟩
    walk_at "w"
    intro p2 np2
    generalize hX2 : upd _ p2 _ = H2
    obtain ⟨s2, g2⟩ := U.newF np2 hX2
    have hx := hx.same s2
    walk_at "w"
    have gA := s2 _ _ gA
    refine Or.inr (Or.inr ⟨_, _, _, _, rfl, rfl, gA, g2, U.sz (by show 8 ≤ 100000; decide), ?_⟩)
    intro p3 np3
    generalize hX3 : upd _ p3 _ = H3
    obtain ⟨s3, g3⟩ := U.newF np3 hX3
    have hx := hx.same s3
    have sA := (sA.trans s2).trans s3
    have gA := g3
    clear hX2 s2 g2 np2 hX3 s3 g3 np3
    walk_at "w"
    refine Or.inr ⟨x, D, _, _, _, rfl, hx, hD.1, .own _, ki_BadPlace T hD, ?_⟩
    walk_at "w"
    refine Or.inr ⟨x, D, _, _, _, rfl, hx, hD.1, .own _, ki_BadKnot T hD, ?_⟩
    walk_at "w"
    refine Or.inr ⟨x, D, _, _, _, rfl, hx, hD.1, .own _, ki_BadKind T hD, ?_⟩
    walk_at "w"
    refine Or.inr ⟨x, D, _, _, _, rfl, hx, hD.1, .own _, ki_BadForm T hD, ?_⟩
    walk_at "w"
    intro p4 np4
    generalize hX4 : upd _ p4 _ = H4
    obtain ⟨s4, g4⟩ := U.newF np4 hX4
    have hx := hx.same s4
    walk_at "w"
    have gA := s4 _ _ gA
    refine Or.inr (Or.inr ⟨_, _, _, _, rfl, rfl, gA, g4, U.sz (by show 12 ≤ 100000; decide), ?_⟩)
    intro p5 np5
    generalize hX5 : upd _ p5 _ = H5
    obtain ⟨s5, g5⟩ := U.newF np5 hX5
    have hx := hx.same s5
    have sA := (sA.trans s4).trans s5
    have gA := g5
    clear hX4 s4 g4 np4 hX5 s5 g5 np5
    walk_at "w"
    refine Or.inr ⟨x, D, _, _, _, rfl, hx, hD.1, .own _, ki_BadDeeds T hD, ?_⟩
    walk_at "w"
    refine Or.inr ⟨x, D, _, _, _, rfl, hx, hD.1, .own _, ki_BadWeight T hD, ?_⟩
    walk_at "w"
    refine Or.inr ⟨x, D, _, _, _, rfl, hx, hD.1, .own _, ki_BadUnits T hD, ?_⟩
    walk_at "w"
    intro p6 np6
    generalize hX6 : upd _ p6 _ = H6
    obtain ⟨s6, g6⟩ := U.newF np6 hX6
    have hx := hx.same s6
    walk_at "w"
    have gA := s6 _ _ gA
    refine Or.inr (Or.inr ⟨_, _, _, _, rfl, rfl, gA, g6, U.sz (by show 15 ≤ 100000; decide), ?_⟩)
    intro p7 np7
    generalize hX7 : upd _ p7 _ = H7
    obtain ⟨s7, g7⟩ := U.newF np7 hX7
    have hx := hx.same s7
    have sA := (sA.trans s6).trans s7
    have gA := g7
    clear hX6 s6 g6 np6 hX7 s7 g7 np7
    walk_at "w"
    refine Or.inr ⟨x, D, _, _, _, rfl, hx, hD.1, .own _, ki_BadBudget T hD, ?_⟩
    walk_at "w"
    refine Or.inr ⟨x, D, _, _, _, rfl, hx, hD.1, .own _, ki_BadStep T hD, ?_⟩
    walk_at "w"
    refine Or.inr ⟨x, D, _, _, _, rfl, hx, hD.1, .own _, ki_TooMany T hD, ?_⟩
    walk_at "w"
    refine Or.inr ⟨x, D, _, _, _, rfl, hx, hD.1, .own _, ki_NoSuch T hD, ?_⟩
    walk_at "w"
    intro p8 np8
    generalize hX8 : upd _ p8 _ = H8
    obtain ⟨s8, g8⟩ := U.newF np8 hX8
    have hx := hx.same s8
    walk_at "w"
    have gA := s8 _ _ gA
    refine Or.inr (Or.inr ⟨_, _, _, _, rfl, rfl, gA, g8, U.sz (by show 19 ≤ 100000; decide), ?_⟩)
    intro p9 np9
    generalize hX9 : upd _ p9 _ = H9
    obtain ⟨s9, g9⟩ := U.newF np9 hX9
    have hx := hx.same s9
    have sA := (sA.trans s8).trans s9
    have gA := g9
    clear hX8 s8 g8 np8 hX9 s9 g9 np9
    walk_at "w"
    refine Or.inr ⟨x, D, _, _, _, rfl, hx, hD.1, .own _, ki_ByZero T hD, ?_⟩
    walk_at "w"
    refine Or.inr ⟨x, D, _, _, _, rfl, hx, hD.1, .own _, ki_NoKind T hD, ?_⟩
    walk_at "w"
    refine Or.inr ⟨x, D, _, _, _, rfl, hx, hD.1, .own _, ki_NothingToUndo T hD, ?_⟩
    walk_at "w"
    intro p10 np10
    generalize hX10 : upd _ p10 _ = H10
    obtain ⟨s10, g10⟩ := U.newF np10 hX10
    have hx := hx.same s10
    walk_at "w"
    have gA := s10 _ _ gA
    refine Or.inr (Or.inr ⟨_, _, _, _, rfl, rfl, gA, g10, U.sz (by show 22 ≤ 100000; decide), ?_⟩)
    intro p11 np11
    generalize hX11 : upd _ p11 _ = H11
    obtain ⟨s11, g11⟩ := U.newF np11 hX11
    have hx := hx.same s11
    have sA := (sA.trans s10).trans s11
    have gA := g11
    clear hX10 s10 g10 np10 hX11 s11 g11 np11
    walk_at "w"
    refine Or.inr ⟨x, D, _, _, _, rfl, hx, hD.1, .own _, ki_NothingToRedo T hD, ?_⟩
    walk_at "w"
    intro p12 np12
    generalize hX12 : upd _ p12 _ = H12
    obtain ⟨s12, g12⟩ := U.newF np12 hX12
    have hx := hx.same s12
    walk_at "w"
    have gA := s12 _ _ gA
    refine Or.inr (Or.inr ⟨_, _, _, _, rfl, rfl, gA, g12, U.sz (by show 23 ≤ 100000; decide), ?_⟩)
    intro p13 np13
    generalize hX13 : upd _ p13 _ = H13
    obtain ⟨s13, g13⟩ := U.newF np13 hX13
    have hx := hx.same s13
    have sA := (sA.trans s12).trans s13
    have gA := g13
    clear hX12 s12 g12 np12 hX13 s13 g13 np13
    exact k _ _ sA gA
end
section
variable {P : Program} {w : World} {K : PySem.W.Frag} {mg : Str → Option Value} {base : Heap} {A : Ad}
theorem ap_len (a b : Str) : (a ++ b).length = a.length + b.length := Str.length_append a b
theorem tf_len : ∀ (ts : List Str) (k : Nat) (acc : Str), (textFrom k acc ts).length ≤ acc.length + ((ts.map Str.length).sum + 2 * ts.length)
  | [], k, acc => by
    show acc.length ≤ _
    omega
  | t :: r, k, acc => by
    have ih := tf_len r (k + 1) (acc ++ (if k > 0 then ", " else "" : String) ++ t)
    have e : (acc ++ (if k > 0 then ", " else "" : String) ++ t : Str).length ≤ acc.length + 2 + t.length := by
      rw [ap_len, ap_len]
      split
      · show acc.length + 2 + t.length ≤ _
        omega
      · show acc.length + 0 + t.length ≤ _
        omega
    show (textFrom (k + 1) _ r).length ≤ _
    simp only [List.map_cons, List.sum_cons, List.length_cons]
    omega
theorem lt_len (ts : List Str) : (listText ts).length ≤ (ts.map Str.length).sum + 2 * ts.length + 2 := by
  have h := tf_len ts 0 "["
  unfold listText
  rw [ap_len]
  have e1 : ("[" : Str).length = 1 := rfl
  have e2 : ("]" : Str).length = 1 := rfl
  omega
theorem piled_le (ts : List Str) : piled ts = (ts.map Str.length).sum + 2 * ts.length := by
  induction ts with
  | nil => rfl
  | cons t r ih =>
    rw [piled_cons, ih]
    simp only [List.map_cons, List.sum_cons, List.length_cons]
    omega
theorem jn_len (ts : List Str) : (Str.join ", " ts).length ≤ (ts.map Str.length).sum + 2 * ts.length := by
  by_cases h : ts = []
  · subst h
    exact Nat.zero_le _
  · have := join_length_add ts h
    rw [piled_le] at this
    omega
theorem tt_len (ts : List Str) : (tupleText ts).length ≤ (ts.map Str.length).sum + 2 * ts.length + 4 := by
  have h := jn_len ts
  unfold tupleText
  rw [ap_len, ap_len]
  have e1 : ("(" : Str).length = 1 := rfl
  have e2 : ((if (ts.length == 1) = true then ",)" else ")" : String) : Str).length ≤ 2 := by
    split
    · exact Nat.le_refl 2
    · exact Nat.le_succ 1
  omega
theorem dt_len (ts : List Str) : (dictText ts).length ≤ (ts.map Str.length).sum + 2 * ts.length + 2 := by
  have h := jn_len ts
  unfold dictText
  rw [ap_len, ap_len]
  have e1 : ("{" : Str).length = 1 := rfl
  have e2 : ("}" : Str).length = 1 := rfl
  omega
/-- below 2 ^ 100 -/
abbrev Sml (i : Int) : Prop := i.natAbs < 1267650600228229401496703205376
theorem sm_log {i : Int} (h : Sml i) : i.natAbs.log2 < 1920 := Nat.lt_trans (PySem.Flt.log2_lt_of (k := 100) (by decide) h) (by decide)
theorem sm_show {i : Int} (h : Sml i) : (PyData.int i).showable = true := decide_eq_true (sm_log h)
theorem sm_len {i : Int} (h : Sml i) : (PyData.int i).shown.length ≤ 1921 := PyProof.Rows.int_text_len_1921 (sm_log h)
theorem sgn (s : String) : ∀ c ∈ (Str.ofString s).cps.toList, c < 16 ^ 8 := by
  intro c hc
  rw [Str.ofString_eq_toList] at hc
  simp only [List.mem_map] at hc
  obtain ⟨x, _, rfl⟩ := hc
  have := x.valid
  have h2 : x.toNat < 0x110000 := by
    rcases this with h | h
    · exact Nat.lt_trans h (by decide)
    · exact h.2
  exact Nat.lt_trans h2 (by decide)
/-- what is asked of data that are shown -/
def okD (d : PyData) : Prop := d.showable = true ∧ d.depth ≤ 20 ∧ d.shown.length ≤ 100000
def flatOk (d : PyData) : Prop := d.hasDict = false ∧ okD d
theorem ok_int {i : Int} (h : Sml i) : flatOk (.int i) := ⟨rfl, sm_show h, Nat.zero_le _, Nat.le_trans (sm_len h) (by decide)⟩
theorem ok_non : flatOk .none := ⟨rfl, rfl, Nat.zero_le _, by decide⟩
theorem ok_bl (b : Bool) : flatOk (.bool b) := ⟨rfl, rfl, Nat.zero_le _, by cases b <;> decide⟩
theorem ok_str {x : Str} (h : ∀ c ∈ x.cps.toList, c < 16 ^ 8) (hl : x.length ≤ 5000) : flatOk (.str x) := ⟨rfl, rfl, Nat.zero_le _, by
  have := StrLaws.reprText_len x h
  show (reprText x).length ≤ _
  omega⟩
theorem ok_tupIS {i : Int} (h : Sml i) : flatOk (.tuple [.int i, .str "b"]) := ⟨rfl, by
  show ((PyData.int i).showable && (true && true)) = true
  rw [sm_show h] <;> rfl, by show max 0 (max 0 0) + 1 ≤ 20; decide, by
  have l := sm_len h
  have t := tt_len [(PyData.int i).shown, (PyData.str "b").shown]
  have e : (PyData.str "b").shown.length = 3 := by decide +kernel
  simp only [List.map_cons, List.map_nil, List.sum_cons, List.sum_nil, List.length_cons, List.length_nil, e] at t
  show (tupleText [(PyData.int i).shown, (PyData.str "b").shown]).length ≤ _
  omega⟩
theorem ok_tupSI {i : Int} (h : Sml i) : flatOk (.tuple [.str "", .int i]) := ⟨rfl, by
  show (true && ((PyData.int i).showable && true)) = true
  rw [sm_show h] <;> rfl, by show max 0 (max 0 0) + 1 ≤ 20; decide, by
  have l := sm_len h
  have t := tt_len [(PyData.str "").shown, (PyData.int i).shown]
  have e : (PyData.str "").shown.length = 2 := by decide
  simp only [List.map_cons, List.map_nil, List.sum_cons, List.sum_nil, List.length_cons, List.length_nil, e] at t
  show (tupleText [(PyData.str "").shown, (PyData.int i).shown]).length ≤ _
  omega⟩
theorem ok_tup0 : flatOk (.tuple []) := ⟨rfl, rfl, by decide, by decide⟩
/-- what is asked of a list's items -/
def itOk (ds : List PyData) : Prop := PyData.hasDictAll ds = false ∧ PyData.showableAll ds = true ∧ PyData.depthAll ds ≤ 10 ∧ ((PyData.shownAll ds).map Str.length).sum ≤ 50000 ∧ ds.length ≤ 5
theorem it_nil : itOk [] := ⟨rfl, rfl, Nat.zero_le _, by decide, by decide⟩
theorem it_int {i : Int} (h : Sml i) : itOk [.int i] := ⟨rfl, by
  show ((PyData.int i).showable && true) = true
  rw [sm_show h] <;> rfl, by show max 0 0 ≤ 10; decide, by
  have l := sm_len h
  show (PyData.int i).shown.length + 0 ≤ _
  omega, by show 1 ≤ 5; decide⟩
theorem it_nest {i : Int} (h : Sml i) : itOk [.tuple [.str "x", .list [.int i]]] := ⟨rfl, by
  show ((true && (((PyData.int i).showable && true) && true)) && true) = true
  rw [sm_show h] <;> rfl, by show max (max 0 (max (max 0 0 + 1) 0) + 1) 0 ≤ 10; decide, by
  have l := sm_len h
  have t1 := lt_len [(PyData.int i).shown]
  have t := tt_len [(PyData.str "x").shown, listText [(PyData.int i).shown]]
  have e : (PyData.str "x").shown.length = 3 := by decide +kernel
  simp only [List.map_cons, List.map_nil, List.sum_cons, List.sum_nil, List.length_cons, List.length_nil, e] at t t1
  show (tupleText [(PyData.str "x").shown, listText [(PyData.int i).shown]]).length + 0 ≤ _
  omega, by show 1 ≤ 5; decide⟩
theorem list_ok {ds : List PyData} (h : itOk ds) : flatOk (.list ds) := by
  obtain ⟨h1, h2, h3, h4, h5⟩ := h
  refine ⟨h1, h2, by show PyData.depthAll ds + 1 ≤ 20; omega, ?_⟩
  have t := lt_len (PyData.shownAll ds)
  have e : ∀ l : List PyData, (PyData.shownAll l).length = l.length := fun l => by
    induction l with
    | nil => rfl
    | cons a r ih =>
      show (PyData.shownAll r).length + 1 = _
      rw [ih]
      rfl
  rw [e] at t
  show (listText (PyData.shownAll ds)).length ≤ _
  omega
end
section
variable {P : Program} {w : World} {K : PySem.W.Frag} {mg : Str → Option Value} {base : Heap} {A : Ad}
theorem box_get {H : Hp} {b : Addr} {n : Nat} (h : U.BoxAt H b n) : ∃ l, H b = some (.lst l) := by
  obtain ⟨b0, b1, b2, e, _⟩ := h
  exact ⟨_, e⟩
def Val (K : PySem.W.Frag) (H : Hp) (v : V) : Prop :=
  (∃ d T, Dp K H v d ∧ flatOk d ∧ TyX K H v (.type T) ∧ kitB T "list" = some false ∧ kitB T "dict" = some false) ∨
  (∃ a xs ds, v = .ref a ∧ H a = some (.lst xs) ∧ (∀ H2, U.SameBut a H H2 → DpAll K H2 xs ds) ∧ itOk ds ∧ xs.length ≤ 5) ∨
  (∃ a es, v = .ref a ∧ H a = some (.dK (dV es)) ∧ (es = [] ∨ ∃ n, Sml n ∧ es = [(.inr "a", n)]))
def spValue (K : PySem.W.Frag) : Sp := fun vs H Q _ => ∃ (b : Addr) (n : Nat), vs = [.ref b] ∧ U.BoxAt H b n ∧ n ≤ 90000 ∧ ∀ v H', Val K H' v → (∀ a, v = .ref a → H a = none) → U.BoxAt H' b (n + 2) → U.SameBut b H H' → Q v H'
theorem num_sml {n : Int} (h0 : 0 ≤ n) (h1 : n < 1000) : Sml n := by
  show n.natAbs < _
  omega
theorem ok_law_value (T : Top K mg A) : FnOk P w K mg base CX0 2 A.a_law_value A.fd_law_value ["box"] (spValue K) := by
  refine T.F_law_value.ok sc_law_value (fun vs H Q E h => ?_) (fun cdv A' outer s H vs Q E hr h => ?_)
  · obtain ⟨b, n, rfl, _⟩ := h
    rfl
  · obtain ⟨b, n, rfl, bx, hn, k⟩ := h
    refine ⟨_, (pss_cons (ps_set (i := 1) sc_law_value.nd rfl (Or.inl rfl) (pe_call (ok_law_take T) (hr.mono (by decide)) rfl T.m_law_take T.F_law_take.kp T.b_law_take .nil pass0 (pa_cons (pv 0) (pa_cons pe_int pa_nil))))
    (pss_cons (ps_set (i := 2) sc_law_value.nd rfl (Or.inl rfl) (pe_lst (pa_cons (pv 1) (pa_cons (pe_un un_neg (pv 1)) (pa_cons (pe_op U.uAdd (pe_op op_pow pe_int pe_int) (pv 1)) (pa_cons (pe_op U.uAdd pe_str (pe_callTy call_str_int (by rfl) T.n_str (by decide +kernel) (pa_cons (pv 1) pa_nil))) (pa_cons pe_str (pa_cons pe_non (pa_cons pe_bl (pa_cons pe_bl (pa_cons (pe_tup (pa_cons (pv 1) (pa_cons pe_str pa_nil))) (pa_cons (pe_tup pa_nil) pa_nil))))))))))))
    (pss_one (ps_ret (pe_ix (U.uIx (K := K) rfl) (pe_op U.uAdd (pv 2) (pe_lst (pa_cons (pe_lst (pa_cons (pv 1) pa_nil)) (pa_cons (pe_lst pa_nil) (pa_cons pe_dnewK (pa_cons (pe_disp (pps_cons pe_str (pv 1) pps_nil) (by rfl) (by rfl) (fun z => by cases z) (by decide)) (pa_cons (pe_tup (pa_cons pe_str (pa_cons (pv 1) pa_nil))) (pa_cons (pe_lst (pa_cons (pe_tup (pa_cons pe_str (pa_cons (pe_lst (pa_cons (pv 1) pa_nil)) pa_nil))) pa_nil)) pa_nil)))))))) (pe_call (ok_law_take T) (hr.mono (by decide)) rfl T.m_law_take T.F_law_take.kp T.b_law_take .nil pass0 (pa_cons (pv 0) (pa_cons pe_int pa_nil))) (fun _ _ => rfl)))))), ?_⟩
    walk_at "w"
    refine ⟨b, _, n, rfl, bx, by omega, by decide, by decide, fun m H1 m0 m1 bx1 s1 => ?_⟩
    walk_at "w"
    have hm := num_sml m0 m1
    have ls := PyProof.Rows.int_text_len_1921 (sm_log hm)
    refine ⟨sm_log hm, ?_⟩
    walk_at "w"
    refine Or.inr (Or.inl ⟨_, _, rfl, rfl, U.sz (by show 1 + _ ≤ _; omega), ?_⟩)
    walk_at "w"
    have c0 := s1
    have b0 := bx1
    intro t1 nt1
    generalize hX : upd _ t1 _ = G1
    obtain ⟨et1, gt1⟩ := U.newF nt1 hX
    have zt1 : t1 ≠ b := fun q => by
      obtain ⟨l, e2⟩ := box_get b0
      rw [q, e2] at nt1
      cases nt1
    have ft1 : H t1 = none := U.SameBut.free c0 zt1 nt1
    have c1 := c0.trans (U.SameBut.of et1)
    have b1 := b0.same et1
    clear hX
    walk_at "w"
    intro t2 nt2
    generalize hX : upd _ t2 _ = G2
    obtain ⟨et2, gt2⟩ := U.newF nt2 hX
    have zt2 : t2 ≠ b := fun q => by
      obtain ⟨l, e2⟩ := box_get b1
      rw [q, e2] at nt2
      cases nt2
    have ft2 : H t2 = none := U.SameBut.free c1 zt2 nt2
    have c2 := c1.trans (U.SameBut.of et2)
    have b2 := b1.same et2
    clear hX
    walk_at "w"
    intro L1 nL1
    generalize hX : upd _ L1 _ = G3
    obtain ⟨eL1, gL1⟩ := U.newF nL1 hX
    have zL1 : L1 ≠ b := fun q => by
      obtain ⟨l, e2⟩ := box_get b2
      rw [q, e2] at nL1
      cases nL1
    have fL1 : H L1 = none := U.SameBut.free c2 zL1 nL1
    have c3 := c2.trans (U.SameBut.of eL1)
    have b3 := b2.same eL1
    clear hX
    walk_at "w"
    intro l1 nl1
    generalize hX : upd _ l1 _ = G4
    obtain ⟨el1, gl1⟩ := U.newF nl1 hX
    have zl1 : l1 ≠ b := fun q => by
      obtain ⟨l, e2⟩ := box_get b3
      rw [q, e2] at nl1
      cases nl1
    have fl1 : H l1 = none := U.SameBut.free c3 zl1 nl1
    have c4 := c3.trans (U.SameBut.of el1)
    have b4 := b3.same el1
    clear hX
    walk_at "w"
    intro l2 nl2
    generalize hX : upd _ l2 _ = G5
    obtain ⟨el2, gl2⟩ := U.newF nl2 hX
    have zl2 : l2 ≠ b := fun q => by
      obtain ⟨l, e2⟩ := box_get b4
      rw [q, e2] at nl2
      cases nl2
    have fl2 : H l2 = none := U.SameBut.free c4 zl2 nl2
    have c5 := c4.trans (U.SameBut.of el2)
    have b5 := b4.same el2
    clear hX
    walk_at "w"
    intro d1 nd1
    generalize hX : upd _ d1 _ = G6
    obtain ⟨ed1, gd1⟩ := U.newF nd1 hX
    have zd1 : d1 ≠ b := fun q => by
      obtain ⟨l, e2⟩ := box_get b5
      rw [q, e2] at nd1
      cases nd1
    have fd1 : H d1 = none := U.SameBut.free c5 zd1 nd1
    have c6 := c5.trans (U.SameBut.of ed1)
    have b6 := b5.same ed1
    clear hX
    walk_at "w"
    intro d2 nd2
    walk_at "w"
    refine ⟨upd_same, [(.inr "a", .int m)], rfl, by show 1 ≤ 15; decide, ?_⟩
    rw [upd_upd]
    generalize hX : upd _ d2 _ = G7
    obtain ⟨ed2, gd2⟩ := U.newF nd2 hX
    have zd2 : d2 ≠ b := fun q => by
      obtain ⟨l, e2⟩ := box_get b6
      rw [q, e2] at nd2
      cases nd2
    have fd2 : H d2 = none := U.SameBut.free c6 zd2 nd2
    have c7 := c6.trans (U.SameBut.of ed2)
    have b7 := b6.same ed2
    clear hX
    walk_at "w"
    intro t3 nt3
    generalize hX : upd _ t3 _ = G8
    obtain ⟨et3, gt3⟩ := U.newF nt3 hX
    have zt3 : t3 ≠ b := fun q => by
      obtain ⟨l, e2⟩ := box_get b7
      rw [q, e2] at nt3
      cases nt3
    have ft3 : H t3 = none := U.SameBut.free c7 zt3 nt3
    have c8 := c7.trans (U.SameBut.of et3)
    have b8 := b7.same et3
    clear hX
    walk_at "w"
    intro l3 nl3
    generalize hX : upd _ l3 _ = G9
    obtain ⟨el3, gl3⟩ := U.newF nl3 hX
    have zl3 : l3 ≠ b := fun q => by
      obtain ⟨l, e2⟩ := box_get b8
      rw [q, e2] at nl3
      cases nl3
    have fl3 : H l3 = none := U.SameBut.free c8 zl3 nl3
    have c9 := c8.trans (U.SameBut.of el3)
    have b9 := b8.same el3
    clear hX
    walk_at "w"
    intro t4 nt4
    generalize hX : upd _ t4 _ = G10
    obtain ⟨et4, gt4⟩ := U.newF nt4 hX
    have zt4 : t4 ≠ b := fun q => by
      obtain ⟨l, e2⟩ := box_get b9
      rw [q, e2] at nt4
      cases nt4
    have ft4 : H t4 = none := U.SameBut.free c9 zt4 nt4
    have c10 := c9.trans (U.SameBut.of et4)
    have b10 := b9.same et4
    clear hX
    walk_at "w"
    intro l4 nl4
    generalize hX : upd _ l4 _ = G11
    obtain ⟨el4, gl4⟩ := U.newF nl4 hX
    have zl4 : l4 ≠ b := fun q => by
      obtain ⟨l, e2⟩ := box_get b10
      rw [q, e2] at nl4
      cases nl4
    have fl4 : H l4 = none := U.SameBut.free c10 zl4 nl4
    have c11 := c10.trans (U.SameBut.of el4)
    have b11 := b10.same el4
    clear hX
    walk_at "w"
    intro M2 nM2
    generalize hX : upd _ M2 _ = G12
    obtain ⟨eM2, gM2⟩ := U.newF nM2 hX
    have zM2 : M2 ≠ b := fun q => by
      obtain ⟨l, e2⟩ := box_get b11
      rw [q, e2] at nM2
      cases nM2
    have fM2 : H M2 = none := U.SameBut.free c11 zM2 nM2
    have c12 := c11.trans (U.SameBut.of eM2)
    have b12 := b11.same eM2
    clear hX
    walk_at "w"
    refine Or.inr (Or.inr ⟨L1, M2, _, _, rfl, rfl, ((((((((el1.trans el2).trans ed1).trans ed2).trans et3).trans el3).trans et4).trans el4).trans eM2) _ _ gL1, gM2, U.sz (by show 16 ≤ 100000; decide), ?_⟩)
    intro L3 nL3
    generalize hX : upd _ L3 _ = G13
    obtain ⟨eL3, gL3⟩ := U.newF nL3 hX
    have zL3 : L3 ≠ b := fun q => by
      obtain ⟨l, e2⟩ := box_get b12
      rw [q, e2] at nL3
      cases nL3
    have c13 := c12.trans (U.SameBut.of eL3)
    have b13 := b12.same eL3
    clear hX
    walk_at "w"
    refine ⟨b, _, n + 1, rfl, b13, by omega, by decide, by decide, fun d G14 d0 d9 bx9 sN => ?_⟩
    have cN := c13.trans sN
    have qt1 := sN _ _ zt1 ((((((((((((et2.trans eL1).trans el1).trans el2).trans ed1).trans ed2).trans et3).trans el3).trans et4).trans el4).trans eM2).trans eL3) _ _ gt1)
    have qt2 := sN _ _ zt2 (((((((((((eL1.trans el1).trans el2).trans ed1).trans ed2).trans et3).trans el3).trans et4).trans el4).trans eM2).trans eL3) _ _ gt2)
    have qL1 := sN _ _ zL1 ((((((((((el1.trans el2).trans ed1).trans ed2).trans et3).trans el3).trans et4).trans el4).trans eM2).trans eL3) _ _ gL1)
    have ql1 := sN _ _ zl1 (((((((((el2.trans ed1).trans ed2).trans et3).trans el3).trans et4).trans el4).trans eM2).trans eL3) _ _ gl1)
    have ql2 := sN _ _ zl2 ((((((((ed1.trans ed2).trans et3).trans el3).trans et4).trans el4).trans eM2).trans eL3) _ _ gl2)
    have qd1 := sN _ _ zd1 (((((((ed2.trans et3).trans el3).trans et4).trans el4).trans eM2).trans eL3) _ _ gd1)
    have qd2 := sN _ _ zd2 ((((((et3.trans el3).trans et4).trans el4).trans eM2).trans eL3) _ _ gd2)
    have qt3 := sN _ _ zt3 (((((el3.trans et4).trans el4).trans eM2).trans eL3) _ _ gt3)
    have ql3 := sN _ _ zl3 ((((et4.trans el4).trans eM2).trans eL3) _ _ gl3)
    have qt4 := sN _ _ zt4 (((el4.trans eM2).trans eL3) _ _ gt4)
    have ql4 := sN _ _ zl4 ((eM2.trans eL3) _ _ gl4)
    have qM2 := sN _ _ zM2 (eL3 _ _ gM2)
    have qL3 := sN _ _ zL3 (gL3)
    have nr : ∀ (x : V), (∀ a, x ≠ .ref a) → ∀ a, x = .ref a → H a = none := fun x h a e => absurd e (h a)
    have vI : ∀ i : Int, Sml i → Val K G14 (.int i) := fun i hi => .inl ⟨_, "int", .int _, ok_int hi, .base (.int _), by decide +kernel, by decide +kernel⟩
    have vS : ∀ x : Str, (∀ c ∈ x.cps.toList, c < 16 ^ 8) → x.length ≤ 5000 → Val K G14 (.str x) := fun x h1 h2 => .inl ⟨_, "str", .str _, ok_str h1 h2, .base (.str _), by decide +kernel, by decide +kernel⟩
    have sgA : ∀ c ∈ ((Str.ofString "a") ++ (Str.ofString (toString m)) : Str).cps.toList, c < 16 ^ 8 := fun c hc => by
      have hc : c ∈ ((Str.ofString "a").cps ++ (Str.ofString (toString m)).cps).toList := hc
      rw [Array.toList_append, List.mem_append] at hc
      exact hc.elim (sgn _ c) (sgn _ c)
    have nl34 : l3 ≠ l4 := ne_of ql3 ql4 (fun z => by
      injection z with z
      injection z with z _
      cases z)
    obtain h | h | h | h | h | h | h | h | h | h | h | h | h | h | h | h : d = 0 ∨ d = 1 ∨ d = 2 ∨ d = 3 ∨ d = 4 ∨ d = 5 ∨ d = 6 ∨ d = 7 ∨ d = 8 ∨ d = 9 ∨ d = 10 ∨ d = 11 ∨ d = 12 ∨ d = 13 ∨ d = 14 ∨ d = 15 := by omega
    · subst h
      refine Or.inl ⟨L3, _, _, _, rfl, rfl, SqL.of qL3, rfl, ?_⟩
      exact k _ _ (vI m hm) (nr _ (fun a e => nomatch e)) bx9 cN
    · subst h
      refine Or.inl ⟨L3, _, _, _, rfl, rfl, SqL.of qL3, rfl, ?_⟩
      exact k _ _ (vI _ (by show (-m).natAbs < _; omega)) (nr _ (fun a e => nomatch e)) bx9 cN
    · subst h
      refine Or.inl ⟨L3, _, _, _, rfl, rfl, SqL.of qL3, rfl, ?_⟩
      exact k _ _ (vI _ (by show ((10 : Int) ^ Int.toNat 29 + m).natAbs < _; rw [show (10 : Int) ^ Int.toNat 29 = 100000000000000000000000000000 by decide]; omega)) (nr _ (fun a e => nomatch e)) bx9 cN
    · subst h
      refine Or.inl ⟨L3, _, _, _, rfl, rfl, SqL.of qL3, rfl, ?_⟩
      exact k _ _ (vS _ sgA (by rw [ap_len]; show 1 + _ ≤ 5000; omega)) (nr _ (fun a e => nomatch e)) bx9 cN
    · subst h
      refine Or.inl ⟨L3, _, _, _, rfl, rfl, SqL.of qL3, rfl, ?_⟩
      exact k _ _ (vS _ (sgn "") (by decide)) (nr _ (fun a e => nomatch e)) bx9 cN
    · subst h
      refine Or.inl ⟨L3, _, _, _, rfl, rfl, SqL.of qL3, rfl, ?_⟩
      exact k _ _ (.inl ⟨_, "NoneType", .non, ok_non, .base .non, by decide +kernel, by decide +kernel⟩) (nr _ (fun a e => nomatch e)) bx9 cN
    · subst h
      refine Or.inl ⟨L3, _, _, _, rfl, rfl, SqL.of qL3, rfl, ?_⟩
      exact k _ _ (.inl ⟨_, "bool", .bl _, ok_bl _, .base (.bl _), by decide +kernel, by decide +kernel⟩) (nr _ (fun a e => nomatch e)) bx9 cN
    · subst h
      refine Or.inl ⟨L3, _, _, _, rfl, rfl, SqL.of qL3, rfl, ?_⟩
      exact k _ _ (.inl ⟨_, "bool", .bl _, ok_bl _, .base (.bl _), by decide +kernel, by decide +kernel⟩) (nr _ (fun a e => nomatch e)) bx9 cN
    · subst h
      refine Or.inl ⟨L3, _, _, _, rfl, rfl, SqL.of qL3, rfl, ?_⟩
      exact k _ _ (.inl ⟨_, "tuple", .tup (SqT.of qt1) (.cons (.int _) (.cons (.str _) .nil)), ok_tupIS hm, .base (.tup qt1), by decide +kernel, by decide +kernel⟩) (fun a e => by injection e with e; rw [← e]; exact ft1) bx9 cN
    · subst h
      refine Or.inl ⟨L3, _, _, _, rfl, rfl, SqL.of qL3, rfl, ?_⟩
      exact k _ _ (.inl ⟨_, "tuple", .tup (SqT.of qt2) .nil, ok_tup0, .base (.tup qt2), by decide +kernel, by decide +kernel⟩) (fun a e => by injection e with e; rw [← e]; exact ft2) bx9 cN
    · subst h
      refine Or.inl ⟨L3, _, _, _, rfl, rfl, SqL.of qL3, rfl, ?_⟩
      exact k _ _ (.inr (.inl ⟨l1, _, [.int m], rfl, ql1, fun _ _ => .cons (.int _) .nil, it_int hm, by show 1 ≤ 5; decide⟩)) (fun a e => by injection e with e; rw [← e]; exact fl1) bx9 cN
    · subst h
      refine Or.inl ⟨L3, _, _, _, rfl, rfl, SqL.of qL3, rfl, ?_⟩
      exact k _ _ (.inr (.inl ⟨l2, _, [], rfl, ql2, fun _ _ => .nil, it_nil, by show 0 ≤ 5; decide⟩)) (fun a e => by injection e with e; rw [← e]; exact fl2) bx9 cN
    · subst h
      refine Or.inl ⟨L3, _, _, _, rfl, rfl, SqL.of qL3, rfl, ?_⟩
      exact k _ _ (.inr (.inr ⟨d1, [], rfl, qd1, .inl rfl⟩)) (fun a e => by injection e with e; rw [← e]; exact fd1) bx9 cN
    · subst h
      refine Or.inl ⟨L3, _, _, _, rfl, rfl, SqL.of qL3, rfl, ?_⟩
      exact k _ _ (.inr (.inr ⟨d2, [(.inr "a", m)], rfl, qd2, .inr ⟨m, hm, rfl⟩⟩)) (fun a e => by injection e with e; rw [← e]; exact fd2) bx9 cN
    · subst h
      refine Or.inl ⟨L3, _, _, _, rfl, rfl, SqL.of qL3, rfl, ?_⟩
      exact k _ _ (.inl ⟨_, "tuple", .tup (SqT.of qt3) (.cons (.str _) (.cons (.int _) .nil)), ok_tupSI hm, .base (.tup qt3), by decide +kernel, by decide +kernel⟩) (fun a e => by injection e with e; rw [← e]; exact ft3) bx9 cN
    · subst h
      refine Or.inl ⟨L3, _, _, _, rfl, rfl, SqL.of qL3, rfl, ?_⟩
      exact k _ _ (.inr (.inl ⟨l4, _, [.tuple [.str "x", .list [.int m]]], rfl, ql4, fun H2 sb => .cons (.tup (SqT.of (sb _ _ (ne_of qt4 ql4 (fun z => by cases z)) qt4)) (.cons (.str _) (.cons (.lst (SqL.of (sb _ _ nl34 ql3)) (.cons (.int _) .nil)) .nil))) .nil, it_nest hm, by show 1 ≤ 5; decide⟩)) (fun a e => by injection e with e; rw [← e]; exact fl4) bx9 cN
end
section
variable {P : Program} {w : World} {K : PySem.W.Frag} {mg : Str → Option Value} {base : Heap} {A : Ad}
def spSame (K : PySem.W.Frag) : Sp := fun vs H Q _ => ∃ v d, vs = [v, v] ∧ Shw K H v d ∧ okD d ∧ Q (.bl true) H
theorem ok_law_same (T : Top K mg A) : FnG P w K mg base 1 A.a_law_same A.fd_law_same ["one", "other"] (spSame K) := by
  refine okG T.F_law_same sc_law_same (fun vs H Q E h => ?_) (fun cdv A' outer s H vs Q E hG hr h => ?_)
  · obtain ⟨v, d, rfl, _⟩ := h
    rfl
  · obtain ⟨v, d, rfl, hS, ⟨h1, h2, h3⟩, k⟩ := h
    refine ⟨_, (pss_one (ps_ret (pe_cmpR (U.uEq (K := K) rfl hr.units) (pe_callB (call_shw hG hr.units) (by rfl) T.n_repr (by decide +kernel) (pa_cons (pv 0) pa_nil)) (pe_callB (call_shw hG hr.units) (by rfl) T.n_repr (by decide +kernel) (pa_cons (pv 1) pa_nil)) (nomark _)))), ?_⟩
    walk_at "w"
    refine ⟨v, d, rfl, hS, h1, by omega, U.sz h3, ?_⟩
    walk_at "w"
    refine ⟨v, d, rfl, hS, h1, by omega, U.sz h3, ?_⟩
    walk_at "w"
    rw [decide_eq_true rfl]
    exact k
/-- what is known of the class and of the field at a place of the law's order -/
def FldOk (K : PySem.W.Frag) (A : Ad) (way : Nat) (D : Addr) (f : Str) : Prop := (clss A)[way]? = some D ∧ flds[way]? = some f ∧ XfC K D ∧ PySem.W.findIn K (.ref D) f = some none
def spField (K : PySem.W.Frag) (A : Ad) : Sp := fun vs H Q _ => ∃ (way : Nat) (x D dx : Addr) (f : Str) (v : V), vs = [.int way, .ref x] ∧ way < 19 ∧ FldOk K A way D f ∧ H x = some (exo x D (some dx)) ∧ H dx = some (exd dx [(f, v)]) ∧ ∀ H', Same H H' → Q v H'
theorem ok_law_field (T : Top K mg A) : FnOk P w K mg base CX0 1 A.a_law_field A.fd_law_field ["way", "e"] (spField K A) := by
  refine T.F_law_field.ok sc_law_field (fun vs H Q E h => ?_) (fun cdv A' outer s H vs Q E hr h => ?_)
  · obtain ⟨way, x, D, dx, f, v, rfl, _⟩ := h
    rfl
  · obtain ⟨way, x, D, dx, f, v, rfl, hw, ⟨k1, k2, k3, k4⟩, h1, h2, k⟩ := h
    refine ⟨_, (pss_cons (ps_if (pt_cmpR (U.uIn (K := K) rfl) (pv 0) (pe_lst (pa_cons pe_int pa_nil)) rfl) (pss_one (ps_ret (pe_exf (pv 1)))) pss_nil)
    (pss_cons (ps_if (pt_cmpR (U.uIn (K := K) rfl) (pv 0) (pe_lst (pa_cons pe_int (pa_cons pe_int (pa_cons pe_int (pa_cons pe_int (pa_cons pe_int (pa_cons pe_int pa_nil))))))) rfl) (pss_one (ps_ret (pe_exf (pv 1)))) pss_nil)
    (pss_cons (ps_if (pt_cmpR (U.uIn (K := K) rfl) (pv 0) (pe_lst (pa_cons pe_int (pa_cons pe_int pa_nil))) rfl) (pss_one (ps_ret (pe_exf (pv 1)))) pss_nil)
    (pss_cons (ps_if (pt_cmpR (U.uIn (K := K) rfl) (pv 0) (pe_lst (pa_cons pe_int (pa_cons pe_int (pa_cons pe_int (pa_cons pe_int (pa_cons pe_int (pa_cons pe_int (pa_cons pe_int (pa_cons pe_int (pa_cons pe_int pa_nil)))))))))) rfl) (pss_one (ps_ret (pe_exf (pv 1)))) pss_nil)
    (pss_one (ps_ret (pe_exf (pv 1)))))))), ?_⟩
    walk_at "w"
    intro p1 np1
    generalize hX : upd _ p1 _ = G1
    obtain ⟨s1, g1⟩ := U.newF np1 hX
    clear hX
    walk_at "w"
    refine U.ifBl (fun q => ?_) (fun q => ?_)
    · simp [inV, eqV] at q
      obtain rfl : way = 0 := by omega
      cases (Option.some.inj k2)
      walk_at "w"
      refine ⟨x, D, dx, _, v, rfl, s1 _ _ h1, s1 _ _ h2, k3, k4, rfl, ?_⟩
      exact k _ s1
    · simp [inV, eqV] at q
      walk_at "w"
      intro p2 np2
      generalize hX : upd _ p2 _ = G2
      obtain ⟨s2, g2⟩ := U.newF np2 hX
      clear hX
      have s2 := s1.trans s2
      walk_at "w"
      refine U.ifBl (fun q2 => ?_) (fun q2 => ?_)
      · simp [inV, eqV] at q2
        obtain rfl | rfl | rfl | rfl | rfl | rfl : way = 1 ∨ way = 2 ∨ way = 3 ∨ way = 5 ∨ way = 6 ∨ way = 18 := by omega
        all_goals
          cases (Option.some.inj k2)
          walk_at "w"
          refine ⟨x, D, dx, _, v, rfl, s2 _ _ h1, s2 _ _ h2, k3, k4, rfl, ?_⟩
          exact k _ s2
      · simp [inV, eqV] at q2
        walk_at "w"
        intro p3 np3
        generalize hX : upd _ p3 _ = G3
        obtain ⟨s3, g3⟩ := U.newF np3 hX
        clear hX
        have s3 := s2.trans s3
        walk_at "w"
        refine U.ifBl (fun q3 => ?_) (fun q3 => ?_)
        · simp [inV, eqV] at q3
          obtain rfl | rfl : way = 4 ∨ way = 11 := by omega
          all_goals
            cases (Option.some.inj k2)
            walk_at "w"
            refine ⟨x, D, dx, _, v, rfl, s3 _ _ h1, s3 _ _ h2, k3, k4, rfl, ?_⟩
            exact k _ s3
        · simp [inV, eqV] at q3
          walk_at "w"
          intro p4 np4
          generalize hX : upd _ p4 _ = G4
          obtain ⟨s4, g4⟩ := U.newF np4 hX
          clear hX
          have s4 := s3.trans s4
          walk_at "w"
          refine U.ifBl (fun q4 => ?_) (fun q4 => ?_)
          · simp [inV, eqV] at q4
            obtain rfl | rfl | rfl | rfl | rfl | rfl | rfl | rfl | rfl : way = 7 ∨ way = 8 ∨ way = 9 ∨ way = 10 ∨ way = 12 ∨ way = 13 ∨ way = 14 ∨ way = 15 ∨ way = 16 := by omega
            all_goals
              cases (Option.some.inj k2)
              walk_at "w"
              refine ⟨x, D, dx, _, v, rfl, s4 _ _ h1, s4 _ _ h2, k3, k4, rfl, ?_⟩
              exact k _ s4
          · simp [inV, eqV] at q4
            obtain rfl : way = 17 := by omega
            cases (Option.some.inj k2)
            walk_at "w"
            refine ⟨x, D, dx, _, v, rfl, s4 _ _ h1, s4 _ _ h2, k3, k4, rfl, ?_⟩
            exact k _ s4
theorem excNew {H H1 : Hp} {a dx C : Addr} {fl : Str} {v : V} (na : H a = none) (ndx : upd H a (exo a C none) dx = none) (hne : dx ≠ a) (h : upd (upd (upd H a (exo a C none)) dx (exd dx [(fl, v)])) a (exo a C (some dx)) = H1) :
    Same H H1 ∧ H1 a = some (exo a C (some dx)) ∧ H1 dx = some (exd dx [(fl, v)]) := by
  subst h
  rw [upd_ne hne] at ndx
  refine ⟨fun b o e => ?_, upd_same, by rw [upd_ne hne, upd_same]⟩
  rw [upd_ne (ne_of_none e na), upd_ne (ne_of_none e ndx), upd_ne (ne_of_none e na)]
  exact e
def spMade (K : PySem.W.Frag) (A : Ad) : Sp := fun vs H Q _ => ∃ (way : Nat) (v : V), vs = [.int way, v] ∧ way < 23 ∧ ∀ (x D : Addr) H', Same H H' → (clss A)[way]? = some D → ExcAt H' x D → (way < 19 → ∃ dx f, FldOk K A way D f ∧ H' x = some (exo x D (some dx)) ∧ H' dx = some (exd dx [(f, v)])) → Q (.ref x) H'
theorem ok_law_made (T : Top K mg A) : FnOk P w K mg base CX0 3 A.a_law_made A.fd_law_made ["way", "value"] (spMade K A) := by
  refine T.F_law_made.ok sc_law_made (fun vs H Q E h => ?_) (fun cdv A' outer s H vs Q E hr h => ?_)
  · obtain ⟨way, v, rfl, _⟩ := h
    rfl
  · obtain ⟨way, v, rfl, hw, k⟩ := h
    refine ⟨_, (pss_cons (ps_if (pt_cmpR U.uLt (pv 0) pe_int (nomark _)) (pss_one (ps_ret (pe_ix (U.uIx (K := K) rfl) (pe_lst (pa_cons (pe_excI T.ox_BadText T.i_BadText T.t_BadText (ok_BadText_init T) (hr.mono (by decide)) T.b_BadText_init .nil pass0 rfl T.m_BadText (pa_cons (pv 1) pa_nil)) (pa_cons (pe_excI T.ox_Twice T.i_Twice T.t_Twice (ok_Twice_init T) (hr.mono (by decide)) T.b_Twice_init .nil pass0 rfl T.m_Twice (pa_cons (pv 1) pa_nil)) (pa_cons (pe_excI T.ox_BadName T.i_BadName T.t_BadName (ok_BadName_init T) (hr.mono (by decide)) T.b_BadName_init .nil pass0 rfl T.m_BadName (pa_cons (pv 1) pa_nil)) (pa_cons (pe_excI T.ox_BadFilling T.i_BadFilling T.t_BadFilling (ok_BadFilling_init T) (hr.mono (by decide)) T.b_BadFilling_init .nil pass0 rfl T.m_BadFilling (pa_cons (pv 1) pa_nil)) (pa_cons (pe_excI T.ox_BadLine T.i_BadLine T.t_BadLine (ok_BadLine_init T) (hr.mono (by decide)) T.b_BadLine_init .nil pass0 rfl T.m_BadLine (pa_cons (pv 1) pa_nil)) (pa_cons (pe_excI T.ox_Unknown T.i_Unknown T.t_Unknown (ok_Unknown_init T) (hr.mono (by decide)) T.b_Unknown_init .nil pass0 rfl T.m_Unknown (pa_cons (pv 1) pa_nil)) pa_nil))))))) (pv 0) (fun _ _ => rfl)))) pss_nil)
    (pss_cons (ps_if (pt_cmpR U.uLt (pv 0) pe_int (nomark _)) (pss_cons (ps_set (i := 2) sc_law_made.nd rfl (Or.inl rfl) (pe_lst (pa_cons (pe_excI T.ox_BadMacro T.i_BadMacro T.t_BadMacro (ok_BadMacro_init T) (hr.mono (by decide)) T.b_BadMacro_init .nil pass0 rfl T.m_BadMacro (pa_cons (pv 1) pa_nil)) (pa_cons (pe_excI T.ox_BadTree T.i_BadTree T.t_BadTree (ok_BadTree_init T) (hr.mono (by decide)) T.b_BadTree_init .nil pass0 rfl T.m_BadTree (pa_cons (pv 1) pa_nil)) (pa_cons (pe_excI T.ox_BadPlace T.i_BadPlace T.t_BadPlace (ok_BadPlace_init T) (hr.mono (by decide)) T.b_BadPlace_init .nil pass0 rfl T.m_BadPlace (pa_cons (pv 1) pa_nil)) (pa_cons (pe_excI T.ox_BadKnot T.i_BadKnot T.t_BadKnot (ok_BadKnot_init T) (hr.mono (by decide)) T.b_BadKnot_init .nil pass0 rfl T.m_BadKnot (pa_cons (pv 1) pa_nil)) (pa_cons (pe_excI T.ox_BadKind T.i_BadKind T.t_BadKind (ok_BadKind_init T) (hr.mono (by decide)) T.b_BadKind_init .nil pass0 rfl T.m_BadKind (pa_cons (pv 1) pa_nil)) (pa_cons (pe_excI T.ox_BadForm T.i_BadForm T.t_BadForm (ok_BadForm_init T) (hr.mono (by decide)) T.b_BadForm_init .nil pass0 rfl T.m_BadForm (pa_cons (pv 1) pa_nil)) pa_nil))))))))
    (pss_one (ps_ret (pe_ix (U.uIx (K := K) rfl) (pv 2) (pe_op op_sub (pv 0) pe_int) (fun _ _ => rfl))))) pss_nil)
    (pss_cons (ps_if (pt_cmpR U.uLt (pv 0) pe_int (nomark _)) (pss_cons (ps_set (i := 2) sc_law_made.nd rfl (Or.inl rfl) (pe_lst (pa_cons (pe_excI T.ox_BadDeeds T.i_BadDeeds T.t_BadDeeds (ok_BadDeeds_init T) (hr.mono (by decide)) T.b_BadDeeds_init .nil pass0 rfl T.m_BadDeeds (pa_cons (pv 1) pa_nil)) (pa_cons (pe_excI T.ox_BadWeight T.i_BadWeight T.t_BadWeight (ok_BadWeight_init T) (hr.mono (by decide)) T.b_BadWeight_init .nil pass0 rfl T.m_BadWeight (pa_cons (pv 1) pa_nil)) (pa_cons (pe_excI T.ox_BadUnits T.i_BadUnits T.t_BadUnits (ok_BadUnits_init T) (hr.mono (by decide)) T.b_BadUnits_init .nil pass0 rfl T.m_BadUnits (pa_cons (pv 1) pa_nil)) (pa_cons (pe_excI T.ox_BadBudget T.i_BadBudget T.t_BadBudget (ok_BadBudget_init T) (hr.mono (by decide)) T.b_BadBudget_init .nil pass0 rfl T.m_BadBudget (pa_cons (pv 1) pa_nil)) (pa_cons (pe_excI T.ox_BadStep T.i_BadStep T.t_BadStep (ok_BadStep_init T) (hr.mono (by decide)) T.b_BadStep_init .nil pass0 rfl T.m_BadStep (pa_cons (pv 1) pa_nil)) (pa_cons (pe_excI T.ox_TooMany T.i_TooMany T.t_TooMany (ok_TooMany_init T) (hr.mono (by decide)) T.b_TooMany_init .nil pass0 rfl T.m_TooMany (pa_cons (pv 1) pa_nil)) pa_nil))))))))
    (pss_one (ps_ret (pe_ix (U.uIx (K := K) rfl) (pv 2) (pe_op op_sub (pv 0) pe_int) (fun _ _ => rfl))))) pss_nil)
    (pss_one (ps_ret (pe_ix (U.uIx (K := K) rfl) (pe_lst (pa_cons (pe_excI T.ox_NoSuch T.i_NoSuch T.t_NoSuch (ok_NoSuch_init T) (hr.mono (by decide)) T.b_NoSuch_init .nil pass0 rfl T.m_NoSuch (pa_cons (pv 1) pa_nil)) (pa_cons (pe_exc0 PySem.F.excBase_ValueError T.x_ByZero T.m_ByZero T.k_ByZero rfl) (pa_cons (pe_exc0 PySem.F.excBase_ValueError T.x_NoKind T.m_NoKind T.k_NoKind rfl) (pa_cons (pe_exc0 PySem.F.excBase_ValueError T.x_NothingToUndo T.m_NothingToUndo T.k_NothingToUndo rfl) (pa_cons (pe_exc0 PySem.F.excBase_ValueError T.x_NothingToRedo T.m_NothingToRedo T.k_NothingToRedo rfl) pa_nil)))))) (pe_op op_sub (pv 0) pe_int) (fun _ _ => rfl))))))), ?_⟩
    walk_at "w"
    refine U.ifD (fun h6 => ?_) (fun h6 => ?_)
    · walk_at "w"
      try refine ⟨(by show 1 ≤ 1000; decide), ?_⟩
      intro x0 nx0
      refine ⟨x0, v, rfl, T.ox_BadText, T.no_BadText_at, upd_same, fun dx0 ndx0 hne0 => ⟨rfl, ?_⟩⟩
      generalize hX : upd (upd (upd _ x0 _) dx0 _) x0 _ = H0
      obtain ⟨s0, g0, r0⟩ := excNew nx0 ndx0 hne0 hX
      clear hX ndx0 hne0 nx0
      walk_at "w"
      try refine ⟨(by show 1 ≤ 1000; decide), ?_⟩
      intro x1 nx1
      refine ⟨x1, v, rfl, T.ox_Twice, T.no_Twice_name, upd_same, fun dx1 ndx1 hne1 => ⟨rfl, ?_⟩⟩
      generalize hX : upd (upd (upd _ x1 _) dx1 _) x1 _ = H1
      obtain ⟨s1, g1, r1⟩ := excNew nx1 ndx1 hne1 hX
      clear hX ndx1 hne1 nx1
      walk_at "w"
      try refine ⟨(by show 1 ≤ 1000; decide), ?_⟩
      intro x2 nx2
      refine ⟨x2, v, rfl, T.ox_BadName, T.no_BadName_name, upd_same, fun dx2 ndx2 hne2 => ⟨rfl, ?_⟩⟩
      generalize hX : upd (upd (upd _ x2 _) dx2 _) x2 _ = H2
      obtain ⟨s2, g2, r2⟩ := excNew nx2 ndx2 hne2 hX
      clear hX ndx2 hne2 nx2
      walk_at "w"
      try refine ⟨(by show 1 ≤ 1000; decide), ?_⟩
      intro x3 nx3
      refine ⟨x3, v, rfl, T.ox_BadFilling, T.no_BadFilling_name, upd_same, fun dx3 ndx3 hne3 => ⟨rfl, ?_⟩⟩
      generalize hX : upd (upd (upd _ x3 _) dx3 _) x3 _ = H3
      obtain ⟨s3, g3, r3⟩ := excNew nx3 ndx3 hne3 hX
      clear hX ndx3 hne3 nx3
      walk_at "w"
      try refine ⟨(by show 1 ≤ 1000; decide), ?_⟩
      intro x4 nx4
      refine ⟨x4, v, rfl, T.ox_BadLine, T.no_BadLine_number, upd_same, fun dx4 ndx4 hne4 => ⟨rfl, ?_⟩⟩
      generalize hX : upd (upd (upd _ x4 _) dx4 _) x4 _ = H4
      obtain ⟨s4, g4, r4⟩ := excNew nx4 ndx4 hne4 hX
      clear hX ndx4 hne4 nx4
      walk_at "w"
      try refine ⟨(by show 1 ≤ 1000; decide), ?_⟩
      intro x5 nx5
      refine ⟨x5, v, rfl, T.ox_Unknown, T.no_Unknown_name, upd_same, fun dx5 ndx5 hne5 => ⟨rfl, ?_⟩⟩
      generalize hX : upd (upd (upd _ x5 _) dx5 _) x5 _ = H5
      obtain ⟨s5, g5, r5⟩ := excNew nx5 ndx5 hne5 hX
      clear hX ndx5 hne5 nx5
      walk_at "w"
      intro l nl
      generalize hX : upd _ l _ = HL
      obtain ⟨sL, gL⟩ := U.newF nl hX
      walk_at "w"
      obtain h | h | h | h | h | h : way = 0 ∨ way = 1 ∨ way = 2 ∨ way = 3 ∨ way = 4 ∨ way = 5 := by omega
      · subst h
        refine Or.inl ⟨l, _, _, .ref x0, rfl, rfl, SqL.of gL, rfl, ?_⟩
        have q1 := (s1.trans (s2.trans (s3.trans (s4.trans (s5.trans sL))))) _ _ g0
        have q2 := (s1.trans (s2.trans (s3.trans (s4.trans (s5.trans sL))))) _ _ r0
        exact k x0 A.c_BadText HL (s0.trans (s1.trans (s2.trans (s3.trans (s4.trans (s5.trans sL)))))) rfl (.inl ⟨dx0, _, q1, q2⟩) (fun _ => ⟨dx0, _, ⟨rfl, rfl, T.xf_BadText, T.no_BadText_at⟩, q1, q2⟩)
      · subst h
        refine Or.inl ⟨l, _, _, .ref x1, rfl, rfl, SqL.of gL, rfl, ?_⟩
        have q1 := (s2.trans (s3.trans (s4.trans (s5.trans sL)))) _ _ g1
        have q2 := (s2.trans (s3.trans (s4.trans (s5.trans sL)))) _ _ r1
        exact k x1 A.c_Twice HL (s0.trans (s1.trans (s2.trans (s3.trans (s4.trans (s5.trans sL)))))) rfl (.inl ⟨dx1, _, q1, q2⟩) (fun _ => ⟨dx1, _, ⟨rfl, rfl, T.xf_Twice, T.no_Twice_name⟩, q1, q2⟩)
      · subst h
        refine Or.inl ⟨l, _, _, .ref x2, rfl, rfl, SqL.of gL, rfl, ?_⟩
        have q1 := (s3.trans (s4.trans (s5.trans sL))) _ _ g2
        have q2 := (s3.trans (s4.trans (s5.trans sL))) _ _ r2
        exact k x2 A.c_BadName HL (s0.trans (s1.trans (s2.trans (s3.trans (s4.trans (s5.trans sL)))))) rfl (.inl ⟨dx2, _, q1, q2⟩) (fun _ => ⟨dx2, _, ⟨rfl, rfl, T.xf_BadName, T.no_BadName_name⟩, q1, q2⟩)
      · subst h
        refine Or.inl ⟨l, _, _, .ref x3, rfl, rfl, SqL.of gL, rfl, ?_⟩
        have q1 := (s4.trans (s5.trans sL)) _ _ g3
        have q2 := (s4.trans (s5.trans sL)) _ _ r3
        exact k x3 A.c_BadFilling HL (s0.trans (s1.trans (s2.trans (s3.trans (s4.trans (s5.trans sL)))))) rfl (.inl ⟨dx3, _, q1, q2⟩) (fun _ => ⟨dx3, _, ⟨rfl, rfl, T.xf_BadFilling, T.no_BadFilling_name⟩, q1, q2⟩)
      · subst h
        refine Or.inl ⟨l, _, _, .ref x4, rfl, rfl, SqL.of gL, rfl, ?_⟩
        have q1 := (s5.trans sL) _ _ g4
        have q2 := (s5.trans sL) _ _ r4
        exact k x4 A.c_BadLine HL (s0.trans (s1.trans (s2.trans (s3.trans (s4.trans (s5.trans sL)))))) rfl (.inl ⟨dx4, _, q1, q2⟩) (fun _ => ⟨dx4, _, ⟨rfl, rfl, T.xf_BadLine, T.no_BadLine_number⟩, q1, q2⟩)
      · subst h
        refine Or.inl ⟨l, _, _, .ref x5, rfl, rfl, SqL.of gL, rfl, ?_⟩
        have q1 := sL _ _ g5
        have q2 := sL _ _ r5
        exact k x5 A.c_Unknown HL (s0.trans (s1.trans (s2.trans (s3.trans (s4.trans (s5.trans sL)))))) rfl (.inl ⟨dx5, _, q1, q2⟩) (fun _ => ⟨dx5, _, ⟨rfl, rfl, T.xf_Unknown, T.no_Unknown_name⟩, q1, q2⟩)
    · walk_at "w"
      refine U.ifD (fun h12 => ?_) (fun h12 => ?_)
      · walk_at "w"
        try refine ⟨(by show 1 ≤ 1000; decide), ?_⟩
        intro x6 nx6
        refine ⟨x6, v, rfl, T.ox_BadMacro, T.no_BadMacro_name, upd_same, fun dx6 ndx6 hne6 => ⟨rfl, ?_⟩⟩
        generalize hX : upd (upd (upd _ x6 _) dx6 _) x6 _ = H6
        obtain ⟨s6, g6, r6⟩ := excNew nx6 ndx6 hne6 hX
        clear hX ndx6 hne6 nx6
        walk_at "w"
        try refine ⟨(by show 1 ≤ 1000; decide), ?_⟩
        intro x7 nx7
        refine ⟨x7, v, rfl, T.ox_BadTree, T.no_BadTree_given, upd_same, fun dx7 ndx7 hne7 => ⟨rfl, ?_⟩⟩
        generalize hX : upd (upd (upd _ x7 _) dx7 _) x7 _ = H7
        obtain ⟨s7, g7, r7⟩ := excNew nx7 ndx7 hne7 hX
        clear hX ndx7 hne7 nx7
        walk_at "w"
        try refine ⟨(by show 1 ≤ 1000; decide), ?_⟩
        intro x8 nx8
        refine ⟨x8, v, rfl, T.ox_BadPlace, T.no_BadPlace_given, upd_same, fun dx8 ndx8 hne8 => ⟨rfl, ?_⟩⟩
        generalize hX : upd (upd (upd _ x8 _) dx8 _) x8 _ = H8
        obtain ⟨s8, g8, r8⟩ := excNew nx8 ndx8 hne8 hX
        clear hX ndx8 hne8 nx8
        walk_at "w"
        try refine ⟨(by show 1 ≤ 1000; decide), ?_⟩
        intro x9 nx9
        refine ⟨x9, v, rfl, T.ox_BadKnot, T.no_BadKnot_given, upd_same, fun dx9 ndx9 hne9 => ⟨rfl, ?_⟩⟩
        generalize hX : upd (upd (upd _ x9 _) dx9 _) x9 _ = H9
        obtain ⟨s9, g9, r9⟩ := excNew nx9 ndx9 hne9 hX
        clear hX ndx9 hne9 nx9
        walk_at "w"
        try refine ⟨(by show 1 ≤ 1000; decide), ?_⟩
        intro x10 nx10
        refine ⟨x10, v, rfl, T.ox_BadKind, T.no_BadKind_given, upd_same, fun dx10 ndx10 hne10 => ⟨rfl, ?_⟩⟩
        generalize hX : upd (upd (upd _ x10 _) dx10 _) x10 _ = H10
        obtain ⟨s10, g10, r10⟩ := excNew nx10 ndx10 hne10 hX
        clear hX ndx10 hne10 nx10
        walk_at "w"
        try refine ⟨(by show 1 ≤ 1000; decide), ?_⟩
        intro x11 nx11
        refine ⟨x11, v, rfl, T.ox_BadForm, T.no_BadForm_number, upd_same, fun dx11 ndx11 hne11 => ⟨rfl, ?_⟩⟩
        generalize hX : upd (upd (upd _ x11 _) dx11 _) x11 _ = H11
        obtain ⟨s11, g11, r11⟩ := excNew nx11 ndx11 hne11 hX
        clear hX ndx11 hne11 nx11
        walk_at "w"
        intro l nl
        generalize hX : upd _ l _ = HL
        obtain ⟨sL, gL⟩ := U.newF nl hX
        walk_at "w"
        obtain h | h | h | h | h | h : way = 6 ∨ way = 7 ∨ way = 8 ∨ way = 9 ∨ way = 10 ∨ way = 11 := by omega
        · subst h
          refine Or.inl ⟨l, _, _, .ref x6, rfl, rfl, SqL.of gL, rfl, ?_⟩
          have q1 := (s7.trans (s8.trans (s9.trans (s10.trans (s11.trans sL))))) _ _ g6
          have q2 := (s7.trans (s8.trans (s9.trans (s10.trans (s11.trans sL))))) _ _ r6
          exact k x6 A.c_BadMacro HL (s6.trans (s7.trans (s8.trans (s9.trans (s10.trans (s11.trans sL)))))) rfl (.inl ⟨dx6, _, q1, q2⟩) (fun _ => ⟨dx6, _, ⟨rfl, rfl, T.xf_BadMacro, T.no_BadMacro_name⟩, q1, q2⟩)
        · subst h
          refine Or.inl ⟨l, _, _, .ref x7, rfl, rfl, SqL.of gL, rfl, ?_⟩
          have q1 := (s8.trans (s9.trans (s10.trans (s11.trans sL)))) _ _ g7
          have q2 := (s8.trans (s9.trans (s10.trans (s11.trans sL)))) _ _ r7
          exact k x7 A.c_BadTree HL (s6.trans (s7.trans (s8.trans (s9.trans (s10.trans (s11.trans sL)))))) rfl (.inl ⟨dx7, _, q1, q2⟩) (fun _ => ⟨dx7, _, ⟨rfl, rfl, T.xf_BadTree, T.no_BadTree_given⟩, q1, q2⟩)
        · subst h
          refine Or.inl ⟨l, _, _, .ref x8, rfl, rfl, SqL.of gL, rfl, ?_⟩
          have q1 := (s9.trans (s10.trans (s11.trans sL))) _ _ g8
          have q2 := (s9.trans (s10.trans (s11.trans sL))) _ _ r8
          exact k x8 A.c_BadPlace HL (s6.trans (s7.trans (s8.trans (s9.trans (s10.trans (s11.trans sL)))))) rfl (.inl ⟨dx8, _, q1, q2⟩) (fun _ => ⟨dx8, _, ⟨rfl, rfl, T.xf_BadPlace, T.no_BadPlace_given⟩, q1, q2⟩)
        · subst h
          refine Or.inl ⟨l, _, _, .ref x9, rfl, rfl, SqL.of gL, rfl, ?_⟩
          have q1 := (s10.trans (s11.trans sL)) _ _ g9
          have q2 := (s10.trans (s11.trans sL)) _ _ r9
          exact k x9 A.c_BadKnot HL (s6.trans (s7.trans (s8.trans (s9.trans (s10.trans (s11.trans sL)))))) rfl (.inl ⟨dx9, _, q1, q2⟩) (fun _ => ⟨dx9, _, ⟨rfl, rfl, T.xf_BadKnot, T.no_BadKnot_given⟩, q1, q2⟩)
        · subst h
          refine Or.inl ⟨l, _, _, .ref x10, rfl, rfl, SqL.of gL, rfl, ?_⟩
          have q1 := (s11.trans sL) _ _ g10
          have q2 := (s11.trans sL) _ _ r10
          exact k x10 A.c_BadKind HL (s6.trans (s7.trans (s8.trans (s9.trans (s10.trans (s11.trans sL)))))) rfl (.inl ⟨dx10, _, q1, q2⟩) (fun _ => ⟨dx10, _, ⟨rfl, rfl, T.xf_BadKind, T.no_BadKind_given⟩, q1, q2⟩)
        · subst h
          refine Or.inl ⟨l, _, _, .ref x11, rfl, rfl, SqL.of gL, rfl, ?_⟩
          have q1 := sL _ _ g11
          have q2 := sL _ _ r11
          exact k x11 A.c_BadForm HL (s6.trans (s7.trans (s8.trans (s9.trans (s10.trans (s11.trans sL)))))) rfl (.inl ⟨dx11, _, q1, q2⟩) (fun _ => ⟨dx11, _, ⟨rfl, rfl, T.xf_BadForm, T.no_BadForm_number⟩, q1, q2⟩)
      · walk_at "w"
        refine U.ifD (fun h18 => ?_) (fun h18 => ?_)
        · walk_at "w"
          try refine ⟨(by show 1 ≤ 1000; decide), ?_⟩
          intro x12 nx12
          refine ⟨x12, v, rfl, T.ox_BadDeeds, T.no_BadDeeds_given, upd_same, fun dx12 ndx12 hne12 => ⟨rfl, ?_⟩⟩
          generalize hX : upd (upd (upd _ x12 _) dx12 _) x12 _ = H12
          obtain ⟨s12, g12, r12⟩ := excNew nx12 ndx12 hne12 hX
          clear hX ndx12 hne12 nx12
          walk_at "w"
          try refine ⟨(by show 1 ≤ 1000; decide), ?_⟩
          intro x13 nx13
          refine ⟨x13, v, rfl, T.ox_BadWeight, T.no_BadWeight_given, upd_same, fun dx13 ndx13 hne13 => ⟨rfl, ?_⟩⟩
          generalize hX : upd (upd (upd _ x13 _) dx13 _) x13 _ = H13
          obtain ⟨s13, g13, r13⟩ := excNew nx13 ndx13 hne13 hX
          clear hX ndx13 hne13 nx13
          walk_at "w"
          try refine ⟨(by show 1 ≤ 1000; decide), ?_⟩
          intro x14 nx14
          refine ⟨x14, v, rfl, T.ox_BadUnits, T.no_BadUnits_given, upd_same, fun dx14 ndx14 hne14 => ⟨rfl, ?_⟩⟩
          generalize hX : upd (upd (upd _ x14 _) dx14 _) x14 _ = H14
          obtain ⟨s14, g14, r14⟩ := excNew nx14 ndx14 hne14 hX
          clear hX ndx14 hne14 nx14
          walk_at "w"
          try refine ⟨(by show 1 ≤ 1000; decide), ?_⟩
          intro x15 nx15
          refine ⟨x15, v, rfl, T.ox_BadBudget, T.no_BadBudget_given, upd_same, fun dx15 ndx15 hne15 => ⟨rfl, ?_⟩⟩
          generalize hX : upd (upd (upd _ x15 _) dx15 _) x15 _ = H15
          obtain ⟨s15, g15, r15⟩ := excNew nx15 ndx15 hne15 hX
          clear hX ndx15 hne15 nx15
          walk_at "w"
          try refine ⟨(by show 1 ≤ 1000; decide), ?_⟩
          intro x16 nx16
          refine ⟨x16, v, rfl, T.ox_BadStep, T.no_BadStep_given, upd_same, fun dx16 ndx16 hne16 => ⟨rfl, ?_⟩⟩
          generalize hX : upd (upd (upd _ x16 _) dx16 _) x16 _ = H16
          obtain ⟨s16, g16, r16⟩ := excNew nx16 ndx16 hne16 hX
          clear hX ndx16 hne16 nx16
          walk_at "w"
          try refine ⟨(by show 1 ≤ 1000; decide), ?_⟩
          intro x17 nx17
          refine ⟨x17, v, rfl, T.ox_TooMany, T.no_TooMany_count, upd_same, fun dx17 ndx17 hne17 => ⟨rfl, ?_⟩⟩
          generalize hX : upd (upd (upd _ x17 _) dx17 _) x17 _ = H17
          obtain ⟨s17, g17, r17⟩ := excNew nx17 ndx17 hne17 hX
          clear hX ndx17 hne17 nx17
          walk_at "w"
          intro l nl
          generalize hX : upd _ l _ = HL
          obtain ⟨sL, gL⟩ := U.newF nl hX
          walk_at "w"
          obtain h | h | h | h | h | h : way = 12 ∨ way = 13 ∨ way = 14 ∨ way = 15 ∨ way = 16 ∨ way = 17 := by omega
          · subst h
            refine Or.inl ⟨l, _, _, .ref x12, rfl, rfl, SqL.of gL, rfl, ?_⟩
            have q1 := (s13.trans (s14.trans (s15.trans (s16.trans (s17.trans sL))))) _ _ g12
            have q2 := (s13.trans (s14.trans (s15.trans (s16.trans (s17.trans sL))))) _ _ r12
            exact k x12 A.c_BadDeeds HL (s12.trans (s13.trans (s14.trans (s15.trans (s16.trans (s17.trans sL)))))) rfl (.inl ⟨dx12, _, q1, q2⟩) (fun _ => ⟨dx12, _, ⟨rfl, rfl, T.xf_BadDeeds, T.no_BadDeeds_given⟩, q1, q2⟩)
          · subst h
            refine Or.inl ⟨l, _, _, .ref x13, rfl, rfl, SqL.of gL, rfl, ?_⟩
            have q1 := (s14.trans (s15.trans (s16.trans (s17.trans sL)))) _ _ g13
            have q2 := (s14.trans (s15.trans (s16.trans (s17.trans sL)))) _ _ r13
            exact k x13 A.c_BadWeight HL (s12.trans (s13.trans (s14.trans (s15.trans (s16.trans (s17.trans sL)))))) rfl (.inl ⟨dx13, _, q1, q2⟩) (fun _ => ⟨dx13, _, ⟨rfl, rfl, T.xf_BadWeight, T.no_BadWeight_given⟩, q1, q2⟩)
          · subst h
            refine Or.inl ⟨l, _, _, .ref x14, rfl, rfl, SqL.of gL, rfl, ?_⟩
            have q1 := (s15.trans (s16.trans (s17.trans sL))) _ _ g14
            have q2 := (s15.trans (s16.trans (s17.trans sL))) _ _ r14
            exact k x14 A.c_BadUnits HL (s12.trans (s13.trans (s14.trans (s15.trans (s16.trans (s17.trans sL)))))) rfl (.inl ⟨dx14, _, q1, q2⟩) (fun _ => ⟨dx14, _, ⟨rfl, rfl, T.xf_BadUnits, T.no_BadUnits_given⟩, q1, q2⟩)
          · subst h
            refine Or.inl ⟨l, _, _, .ref x15, rfl, rfl, SqL.of gL, rfl, ?_⟩
            have q1 := (s16.trans (s17.trans sL)) _ _ g15
            have q2 := (s16.trans (s17.trans sL)) _ _ r15
            exact k x15 A.c_BadBudget HL (s12.trans (s13.trans (s14.trans (s15.trans (s16.trans (s17.trans sL)))))) rfl (.inl ⟨dx15, _, q1, q2⟩) (fun _ => ⟨dx15, _, ⟨rfl, rfl, T.xf_BadBudget, T.no_BadBudget_given⟩, q1, q2⟩)
          · subst h
            refine Or.inl ⟨l, _, _, .ref x16, rfl, rfl, SqL.of gL, rfl, ?_⟩
            have q1 := (s17.trans sL) _ _ g16
            have q2 := (s17.trans sL) _ _ r16
            exact k x16 A.c_BadStep HL (s12.trans (s13.trans (s14.trans (s15.trans (s16.trans (s17.trans sL)))))) rfl (.inl ⟨dx16, _, q1, q2⟩) (fun _ => ⟨dx16, _, ⟨rfl, rfl, T.xf_BadStep, T.no_BadStep_given⟩, q1, q2⟩)
          · subst h
            refine Or.inl ⟨l, _, _, .ref x17, rfl, rfl, SqL.of gL, rfl, ?_⟩
            have q1 := sL _ _ g17
            have q2 := sL _ _ r17
            exact k x17 A.c_TooMany HL (s12.trans (s13.trans (s14.trans (s15.trans (s16.trans (s17.trans sL)))))) rfl (.inl ⟨dx17, _, q1, q2⟩) (fun _ => ⟨dx17, _, ⟨rfl, rfl, T.xf_TooMany, T.no_TooMany_count⟩, q1, q2⟩)
        · walk_at "w"
          try refine ⟨(by show 1 ≤ 1000; decide), ?_⟩
          intro x18 nx18
          refine ⟨x18, v, rfl, T.ox_NoSuch, T.no_NoSuch_name, upd_same, fun dx18 ndx18 hne18 => ⟨rfl, ?_⟩⟩
          generalize hX : upd (upd (upd _ x18 _) dx18 _) x18 _ = H18
          obtain ⟨s18, g18, r18⟩ := excNew nx18 ndx18 hne18 hX
          clear hX ndx18 hne18 nx18
          walk_at "w"
          intro x19 nx19
          generalize hX : upd _ x19 _ = H19
          obtain ⟨s19, g19⟩ := U.newF nx19 hX
          clear hX nx19
          walk_at "w"
          intro x20 nx20
          generalize hX : upd _ x20 _ = H20
          obtain ⟨s20, g20⟩ := U.newF nx20 hX
          clear hX nx20
          walk_at "w"
          intro x21 nx21
          generalize hX : upd _ x21 _ = H21
          obtain ⟨s21, g21⟩ := U.newF nx21 hX
          clear hX nx21
          walk_at "w"
          intro x22 nx22
          generalize hX : upd _ x22 _ = H22
          obtain ⟨s22, g22⟩ := U.newF nx22 hX
          clear hX nx22
          walk_at "w"
          intro l nl
          generalize hX : upd _ l _ = HL
          obtain ⟨sL, gL⟩ := U.newF nl hX
          walk_at "w"
          obtain h | h | h | h | h : way = 18 ∨ way = 19 ∨ way = 20 ∨ way = 21 ∨ way = 22 := by omega
          · subst h
            refine Or.inl ⟨l, _, _, .ref x18, rfl, rfl, SqL.of gL, rfl, ?_⟩
            have q1 := (s19.trans (s20.trans (s21.trans (s22.trans sL)))) _ _ g18
            have q2 := (s19.trans (s20.trans (s21.trans (s22.trans sL)))) _ _ r18
            exact k x18 A.c_NoSuch HL (s18.trans (s19.trans (s20.trans (s21.trans (s22.trans sL))))) rfl (.inl ⟨dx18, _, q1, q2⟩) (fun _ => ⟨dx18, _, ⟨rfl, rfl, T.xf_NoSuch, T.no_NoSuch_name⟩, q1, q2⟩)
          · subst h
            refine Or.inl ⟨l, _, _, .ref x19, rfl, rfl, SqL.of gL, rfl, ?_⟩
            exact k x19 A.c_ByZero HL (s18.trans (s19.trans (s20.trans (s21.trans (s22.trans sL))))) rfl (.inr ((s20.trans (s21.trans (s22.trans sL))) _ _ g19)) (fun z => absurd z (by omega))
          · subst h
            refine Or.inl ⟨l, _, _, .ref x20, rfl, rfl, SqL.of gL, rfl, ?_⟩
            exact k x20 A.c_NoKind HL (s18.trans (s19.trans (s20.trans (s21.trans (s22.trans sL))))) rfl (.inr ((s21.trans (s22.trans sL)) _ _ g20)) (fun z => absurd z (by omega))
          · subst h
            refine Or.inl ⟨l, _, _, .ref x21, rfl, rfl, SqL.of gL, rfl, ?_⟩
            exact k x21 A.c_NothingToUndo HL (s18.trans (s19.trans (s20.trans (s21.trans (s22.trans sL))))) rfl (.inr ((s22.trans sL) _ _ g21)) (fun z => absurd z (by omega))
          · subst h
            refine Or.inl ⟨l, _, _, .ref x22, rfl, rfl, SqL.of gL, rfl, ?_⟩
            exact k x22 A.c_NothingToRedo HL (s18.trans (s19.trans (s20.trans (s21.trans (s22.trans sL))))) rfl (.inr (sL _ _ g22)) (fun z => absurd z (by omega))
end
section
variable {P : Program} {w : World} {K : PySem.W.Frag} {mg : Str → Option Value} {base : Heap} {A : Ad}
theorem pe_bmK {X : Cx} {K : PySem.W.Frag} {T : String} {name : Str} {id : String} {r : V → List V → Hp → VK → Prop} {o e : Expr} {es : List Expr} {to : TE} {t : TA} {apos cpos : Pos} (hK : X.K = K) (pa : PlainAttrs T) (slot : Slot T name id) (hty : typeOf (.builtin id) = pure (.type "method_descriptor")) (hm : MtR X id r) (ho : PE X o to) (ha : PA X (e :: es) t)
    (hbase : attributeBase o name X.env (eval o X.env) = eval o X.env := by rfl)
    (hfew : ((backTo cpos (starEach (e :: es) X.env)).all (fun x => !x.1) && (backToKw cpos (keywordEach [] X.env)).all (fun x => x.1.isSome)
      && decide ((e :: es).length + ([] : List Keyword).length + (if ([] : List Keyword).isEmpty then 0 else 1) < 30)) = true := by rfl)
    (hline : (apos.endLine == cpos.line) = true := by rfl) (hs : starEach (e :: es) X.env = (false, eval e X.env) :: starEach es X.env := by rfl) (hplain : (backTo cpos (starEach es X.env)).any (·.1) = false := by rfl) :
    PE X (.Call (.Attribute o name apos) (e :: es) [] cpos) (tBM K T r to t) := by
  subst hK
  exact pe_bm pa slot hty hm ho ha hbase hfew hline hs hplain
def nV (xs : List Nat) : List V := xs.map fun i : Nat => V.int (i : Int)
theorem len_nV (xs : List Nat) : (nV xs).length = xs.length := List.length_map _
theorem get_nV {xs : List Nat} {i y : Nat} (h : xs[i]? = some y) : (nV xs)[i]? = some (V.int (y : Int)) := by
  unfold nV
  rw [List.getElem?_map, h]
  rfl
theorem erase_nV : ∀ (xs : List Nat) (i : Nat), (nV xs).eraseIdx i = nV (xs.eraseIdx i)
  | [], _ => rfl
  | _ :: _, 0 => rfl
  | x :: xs, i + 1 => by
    show V.int (x : Int) :: (nV xs).eraseIdx i = V.int (x : Int) :: nV (xs.eraseIdx i)
    rw [erase_nV xs i]
theorem seq_at {d : Int} {n : Nat} (h0 : 0 ≤ d) (h1 : d < n) : seqIndex? d n = some d.toNat := by
  have e : ¬ d < 0 := by omega
  simp only [seqIndex?, if_neg e, decide_eq_true h0, decide_eq_true h1, Bool.and_self, if_true]
def spMixed : Sp := fun vs H Q _ => ∃ (b l : Addr) (n : Nat) (xs : List Nat), vs = [.ref b, .ref l] ∧ U.BoxAt H b n ∧ n ≤ 80000 ∧ H l = some (.lst (nV xs)) ∧ xs.length ≤ 30 ∧ (∀ y ∈ xs, y < 23) ∧
  ∀ p H' ys, U.SameBut b H H' → U.BoxAt H' b (n + 30) → H p = none → H' p = some (.lst (nV ys)) → (∀ y ∈ ys, y < 23) → ys.length ≤ 30 → Q (.ref p) H'
theorem ok_law_mixed (T : Top K mg A) : FnOk P w K mg base CX0 2 A.a_law_mixed A.fd_law_mixed ["box", "some"] spMixed := by
  refine T.F_law_mixed.ok sc_law_mixed (fun vs H Q E h => ?_) (fun cdv A' outer s H vs Q E hr h => ?_)
  · obtain ⟨b, l, n, xs, rfl, _⟩ := h
    rfl
  · obtain ⟨b, l, n, xs, rfl, bx, hn, hl, hlen, hall, k⟩ := h
    refine ⟨_, (pss_cons (ps_set (i := 2) sc_law_mixed.nd rfl (Or.inr rfl) (pe_callTy call_list_of (by rfl) T.n_list (by decide +kernel) (pa_cons (pv 1) pa_nil)))
    (pss_one (ps_ret (pe_lc (own := [("k", 3)]) rfl sc_law_mixed.nd (pi_range1 (by rfl) T.n_range (pa_cons (pe_callB (U.uLen (K := K) rfl) (by rfl) T.n_len (by decide +kernel) (pa_cons (pv 1) pa_nil)) pa_nil)) (blkOk_by (own := [("k", 3)]) (N := nm_law_mixed) (sc := defScope s_law_mixed) (by decide +kernel)) (fun _ _ _ _ _ => (pg_name (i := 3) sc_law_mixed.nd rfl (Or.inl rfl))) (fun _ _ _ _ _ => pts_nil) (fun _ _ _ _ _ => (pe_bmK (K := K) rfl PySem.F.plainAttrs_list PySem.F.slot_list_pop PySem.F.type_list_pop mt_popAt (pv 2) (pa_cons (pe_call (ok_law_take T) (hr.mono (by decide)) rfl T.m_law_take T.F_law_take.kp T.b_law_take .nil pass0 (pa_cons (pv 0) (pa_cons (pe_callB (U.uLen (K := K) rfl) (by rfl) T.n_len (by decide +kernel) (pa_cons (pv 2) pa_nil)) pa_nil))) pa_nil))))))), ?_⟩
    walk_at "w"
    refine ⟨l, _, rfl, Or.inl (SqL.of hl), ?_⟩
    intro l2 nl2
    generalize hX : upd _ l2 _ = H1
    obtain ⟨s1, g1⟩ := U.newF nl2 hX
    clear hX
    walk_at "w"
    refine Or.inr ⟨l, _, rfl, Or.inl (SqL.of (s1 _ _ hl)), ?_⟩
    rw [len_nV]
    walk_at "w"
    intro D nD
    have zl2 : l2 ≠ b := fun q => by
      obtain ⟨z, e2⟩ := box_get bx
      rw [q, e2] at nl2
      cases nl2
    have bx1 := bx.same s1
    have zD : D ≠ b := fun q => by
      obtain ⟨z, e2⟩ := box_get bx1
      rw [q, e2] at nD
      cases nD
    have zDl : l2 ≠ D := ne_of_none g1 nD
    have fD : H D = none := Same.free s1 nD
    refine lc_range (fun j Hj => ∃ rest acc : List Nat, rest.length + j = xs.length ∧ acc.length = j ∧ Hj l2 = some (.lst (nV rest)) ∧ Hj D = some (.lst (nV acc)) ∧ (∀ y ∈ rest, y < 23) ∧ (∀ y ∈ acc, y < 23) ∧ U.BoxAt Hj b (n + j) ∧ U.SameBut b H Hj)
      ⟨xs, [], rfl, rfl, by rw [upd_ne zDl]; exact g1, upd_same, hall, (fun y h => by cases h), bx1.same (U.same_new nD), (U.SameBut.of s1).trans (U.SameBut.of (U.same_new nD))⟩ ?_ ?_
    · rintro j Hj hj ⟨rest, acc, e1, e2, r1, r2, a1, a2, bj, sj⟩
      have hj : j < xs.length := by
        have h : j < (xs.length : Int).toNat := hj
        omega
      refine ⟨rfl, ?_⟩
      walk_at "w"
      rw [len_nV]
      refine ⟨b, _, n + j, rfl, bj, by omega, by omega, by omega, fun d H5 d0 d1 bx5 s5 => ?_⟩
      have r5 := s5 _ _ zl2 r1
      have q5 := s5 _ _ zD r2
      obtain ⟨y, hy⟩ : ∃ y, rest[d.toNat]? = some y := ⟨_, List.getElem?_eq_getElem (by omega)⟩
      refine ⟨l2, _, d, d.toNat, V.int (y : Int), rfl, rfl, r5, by omega, by omega, by rw [len_nV]; exact seq_at d0 d1, get_nV hy, ?_⟩
      rw [erase_nV]
      have hy23 := a1 y (List.mem_of_getElem? hy)
      refine ⟨nV acc, by rw [upd_ne (Ne.symm zDl)]; exact q5, U.szl (by rw [len_nV]; omega), rest.eraseIdx d.toNat, acc ++ [y], ?_, by rw [List.length_append, e2]; rfl, by rw [upd_ne zDl, upd_same], ?_, fun z hz => a1 z (List.mem_of_mem_eraseIdx hz), fun z hz => ?_, ?_, ?_⟩
      · rw [List.length_eraseIdx, if_pos (by omega)]
        omega
      · rw [upd_same]
        unfold nV
        rw [List.map_append]
        rfl
      · rcases List.mem_append.mp hz with hz | hz
        · exact a2 z hz
        · cases List.mem_singleton.mp hz
          exact hy23
      · obtain ⟨b0, b1, b2, e, r⟩ := bx5
        exact ⟨b0, b1, b2, by rw [upd_ne (Ne.symm zD), upd_ne (Ne.symm zl2)]; exact e, r⟩
      · intro c u hc hu
        rw [upd_ne (ne_of_none hu fD), upd_ne (ne_of_none hu (by
          show H l2 = none
          exact nl2))]
        exact s5 _ _ hc (sj _ _ hc hu)
    · rintro Hj ⟨rest, acc, e1, e2, r1, r2, a1, a2, bj, sj⟩
      exact k D Hj acc sj (bj.mono (by
        have h : (xs.length : Int).toNat = xs.length := rfl
        omega)) fD r2 a2 (by
        have h : (xs.length : Int).toNat = xs.length := rfl
        omega)
end
section
variable {P : Program} {w : World} {K : PySem.W.Frag} {mg : Str → Option Value} {base : Heap} {A : Ad}
theorem dp_app {H : Hp} {y : V} {d : PyData} (h : Dp K H y d) : ∀ {xs : List V} {ds : List PyData}, DpAll K H xs ds → DpAll K H (xs ++ [y]) (ds ++ [d])
  | [], [], .nil => .cons h .nil
  | _ :: _, _ :: _, .cons a r => .cons a (dp_app h r)
theorem app_facts {i : Int} (hi : Sml i) : ∀ ds : List PyData, PyData.hasDictAll ds = false → PyData.showableAll ds = true →
    PyData.hasDictAll (ds ++ [.int i]) = false ∧ PyData.showableAll (ds ++ [.int i]) = true ∧ PyData.depthAll (ds ++ [.int i]) = PyData.depthAll ds ∧ PyData.shownAll (ds ++ [.int i]) = PyData.shownAll ds ++ [(PyData.int i).shown]
  | [], _, _ => ⟨rfl, by show ((PyData.int i).showable && true) = true; rw [sm_show hi] <;> rfl, rfl, rfl⟩
  | d :: r, h1, h2 => by
    have h1 : (d.hasDict || PyData.hasDictAll r) = false := h1
    have h2 : (d.showable && PyData.showableAll r) = true := h2
    rw [Bool.or_eq_false_iff] at h1
    rw [Bool.and_eq_true] at h2
    obtain ⟨a1, a2, a3, a4⟩ := app_facts hi r h1.2 h2.2
    refine ⟨?_, ?_, ?_, ?_⟩
    · show (d.hasDict || PyData.hasDictAll (r ++ [.int i])) = false
      rw [h1.1, a1] <;> rfl
    · show (d.showable && PyData.showableAll (r ++ [.int i])) = true
      rw [h2.1, a2] <;> rfl
    · show max d.depth (PyData.depthAll (r ++ [.int i])) = max d.depth (PyData.depthAll r)
      rw [a3]
    · show d.shown :: PyData.shownAll (r ++ [.int i]) = d.shown :: (PyData.shownAll r ++ [_])
      rw [a4]
theorem shAll_len (l : List PyData) : (PyData.shownAll l).length = l.length := by
  induction l with
  | nil => rfl
  | cons a r ih =>
    show (PyData.shownAll r).length + 1 = _
    rw [ih]
    rfl
theorem list_app {ds : List PyData} {i : Int} (h : itOk ds) (hi : Sml i) : flatOk (.list (ds ++ [.int i])) := by
  obtain ⟨h1, h2, h3, h4, h5⟩ := h
  obtain ⟨a1, a2, a3, a4⟩ := app_facts hi ds h1 h2
  refine ⟨a1, a2, by show PyData.depthAll (ds ++ [.int i]) + 1 ≤ 20; omega, ?_⟩
  have t := lt_len (PyData.shownAll (ds ++ [.int i]))
  have l := sm_len hi
  rw [a4, List.map_append, List.sum_append, List.length_append, shAll_len] at t
  simp only [List.map_cons, List.map_nil, List.sum_cons, List.sum_nil, List.length_cons, List.length_nil] at t
  show (listText (PyData.shownAll (ds ++ [.int i]))).length ≤ _
  rw [a4]
  omega
theorem kv_len {k v : PyData} {a b : Nat} (h1 : k.shown.length ≤ a) (h2 : v.shown.length ≤ b) : (k.shown ++ ": " ++ v.shown : Str).length ≤ a + 2 + b := by
  rw [ap_len, ap_len]
  have e : (": " : Str).length = 2 := rfl
  omega
theorem len_a : (PyData.str "a").shown.length ≤ 3 := by decide +kernel
theorem d_nil : okD (dD []) := ⟨rfl, by decide, by decide +kernel⟩
theorem d_one {k : Key} {v : Int} (hk : (kD k).showable = true ∧ (kD k).depth = 0 ∧ (kD k).shown.length ≤ 1921) (hv : Sml v) : okD (dD [(k, v)]) := by
  obtain ⟨k1, k2, k3⟩ := hk
  refine ⟨?_, ?_, ?_⟩
  · show ((kD k).showable && (PyData.int v).showable && true) = true
    rw [k1, sm_show hv] <;> rfl
  · show max (max (kD k).depth 0) 0 + 1 ≤ 20
    rw [k2]
    decide
  · have t := dt_len [((kD k).shown ++ ": " ++ (PyData.int v).shown : Str)]
    have e := kv_len k3 (sm_len hv)
    simp only [List.map_cons, List.map_nil, List.sum_cons, List.sum_nil, List.length_cons, List.length_nil] at t
    show (dictText [((kD k).shown ++ ": " ++ (PyData.int v).shown : Str)]).length ≤ _
    omega
theorem d_two {k k2 : Key} {v v2 : Int} (hk : (kD k).showable = true ∧ (kD k).depth = 0 ∧ (kD k).shown.length ≤ 1921) (hv : Sml v) (hk2 : (kD k2).showable = true ∧ (kD k2).depth = 0 ∧ (kD k2).shown.length ≤ 1921) (hv2 : Sml v2) : okD (dD [(k, v), (k2, v2)]) := by
  obtain ⟨a1, a2, a3⟩ := hk
  obtain ⟨b1, b2, b3⟩ := hk2
  refine ⟨?_, ?_, ?_⟩
  · show ((kD k).showable && (PyData.int v).showable && ((kD k2).showable && (PyData.int v2).showable && true)) = true
    rw [a1, sm_show hv, b1, sm_show hv2] <;> rfl
  · show max (max (kD k).depth 0) (max (max (kD k2).depth 0) 0) + 1 ≤ 20
    rw [a2, b2]
    decide
  · have t := dt_len [((kD k).shown ++ ": " ++ (PyData.int v).shown : Str), ((kD k2).shown ++ ": " ++ (PyData.int v2).shown : Str)]
    have e := kv_len a3 (sm_len hv)
    have e2 := kv_len b3 (sm_len hv2)
    simp only [List.map_cons, List.map_nil, List.sum_cons, List.sum_nil, List.length_cons, List.length_nil] at t
    show (dictText [((kD k).shown ++ ": " ++ (PyData.int v).shown : Str), ((kD k2).shown ++ ": " ++ (PyData.int v2).shown : Str)]).length ≤ _
    omega
theorem key_a : (kD (.inr "a")).showable = true ∧ (kD (.inr "a")).depth = 0 ∧ (kD (.inr "a")).shown.length ≤ 1921 := ⟨rfl, rfl, Nat.le_trans len_a (by decide)⟩
theorem key_i {i : Int} (h : Sml i) : (kD (.inl i)).showable = true ∧ (kD (.inl i)).depth = 0 ∧ (kD (.inl i)).shown.length ≤ 1921 := ⟨sm_show h, rfl, sm_len h⟩
/-- a value in the loop: before the first, or the second turn -/
def WV (j : Nat) (K : PySem.W.Frag) (H : Hp) (v : V) : Prop :=
  (∃ d T, Dp K H v d ∧ flatOk d ∧ TyX K H v (.type T) ∧ kitB T "list" = some false ∧ kitB T "dict" = some false) ∨
  (∃ a xs ds, v = .ref a ∧ H a = some (.lst xs) ∧ (∀ H2, U.SameBut a H H2 → DpAll K H2 xs ds) ∧ flatOk (.list ds) ∧ (j = 0 → itOk ds) ∧ xs.length ≤ 6) ∨
  (∃ a es, v = .ref a ∧ H a = some (.dK (dV es)) ∧ okD (dD es) ∧ (j = 0 → es = [] ∨ ∃ n, Sml n ∧ es = [(.inr "a", n)]) ∧ es.length ≤ 6)
theorem WV.of {H : Hp} {v : V} (h : Val K H v) : WV 0 K H v := by
  rcases h with h | ⟨a, xs, ds, e, h1, h2, h3, h4⟩ | ⟨a, es, e, h1, h2⟩
  · exact .inl h
  · exact .inr (.inl ⟨a, xs, ds, e, h1, h2, list_ok h3, fun _ => h3, by omega⟩)
  · refine .inr (.inr ⟨a, es, e, h1, ?_, fun _ => h2, ?_⟩)
    · rcases h2 with rfl | ⟨n, hn, rfl⟩
      · exact d_nil
      · exact d_one key_a hn
    · rcases h2 with rfl | ⟨n, hn, rfl⟩
      · exact Nat.zero_le _
      · show 1 ≤ 6
        decide
theorem put_new {es : List (Key × Int)} {way t : Int} (h : es = [] ∨ ∃ n, Sml n ∧ es = [(.inr "a", n)]) : putK (dV es) (Sum.inl way : Key) (V.int t) = dV (es ++ [(.inl way, t)]) := by
  rcases h with rfl | ⟨n, _, rfl⟩ <;> rfl
theorem put_ok {es : List (Key × Int)} {way t : Int} (h : es = [] ∨ ∃ n, Sml n ∧ es = [(.inr "a", n)]) (hw : Sml way) (ht : Sml t) : okD (dD (es ++ [(.inl way, t)])) := by
  rcases h with rfl | ⟨n, hn, rfl⟩
  · exact d_one (key_i hw) ht
  · exact d_two key_a hn (key_i hw) ht
end
section
variable {P : Program} {w : World} {K : PySem.W.Frag} {mg : Str → Option Value} {base : Heap} {A : Ad}
theorem cls_ok (T : Top K mg A) {D : Addr} {way : Nat} (h : (clss A)[way]? = some D) : ClsOk K A.c_KindError D ∧ D ≠ A.c_KindError := by
  have nd := T.nd
  have hm := List.mem_of_getElem? h
  have all : ∀ C ∈ clss A, ClsOk K A.c_KindError C := by
    intro C hC
    simp only [clss, List.mem_cons, List.not_mem_nil, or_false] at hC
    rcases hC with rfl | rfl | rfl | rfl | rfl | rfl | rfl | rfl | rfl | rfl | rfl | rfl | rfl | rfl | rfl | rfl | rfl | rfl | rfl | rfl | rfl | rfl | rfl
    · exact co_BadText T
    · exact co_Twice T
    · exact co_BadName T
    · exact co_BadFilling T
    · exact co_BadLine T
    · exact co_Unknown T
    · exact co_BadMacro T
    · exact co_BadTree T
    · exact co_BadPlace T
    · exact co_BadKnot T
    · exact co_BadKind T
    · exact co_BadForm T
    · exact co_BadDeeds T
    · exact co_BadWeight T
    · exact co_BadUnits T
    · exact co_BadBudget T
    · exact co_BadStep T
    · exact co_TooMany T
    · exact co_NoSuch T
    · exact co_ByZero T
    · exact co_NoKind T
    · exact co_NothingToUndo T
    · exact co_NothingToRedo T
  refine ⟨all D hm, fun e => ?_⟩
  subst e
  exact (List.nodup_cons.mp nd).1 hm
theorem cls_nodup (T : Top K mg A) : (clss A).Nodup := (List.nodup_cons.mp T.nd).2
theorem nodup_inj {l : List Addr} (h : l.Nodup) {i j : Nat} (hi : i < l.length) (hj : j < l.length) (e : l[i] = l[j]) : i = j := by
  have p := List.pairwise_iff_getElem.mp h
  rcases Nat.lt_trichotomy i j with q | q | q
  · exact absurd e (p i j hi hj q)
  · exact q
  · exact absurd e.symm (p j i hj hi q)
/-- the truths that are told of the classes are those of the places -/
theorem cls_bools (T : Top K mg A) {D : Addr} {way : Nat} (h : (clss A)[way]? = some D) : (clss A).map (fun C => decide (D = C)) = (List.range 23).map (fun k => decide (k = way)) := by
  obtain ⟨hw, e⟩ := List.getElem?_eq_some_iff.mp h
  refine List.ext_getElem (by simp [clss]) fun i h1 h2 => ?_
  have h1' : i < (clss A).length := by simpa using h1
  simp only [List.getElem_map, List.getElem_range]
  refine decide_eq_decide.mpr ?_
  rw [← e]
  exact ⟨fun q => (nodup_inj (cls_nodup T) hw h1' q).symm, fun q => by subst q; rfl⟩
def blD (bs : List Bool) : List PyData := bs.map .bool
theorem dpBls {H : Hp} : ∀ bs : List Bool, DpAll K H (bs.map V.bl) (blD bs)
  | [] => .nil
  | b :: r => .cons (.bl b) (dpBls r)
theorem canBls : ∀ bs : List Bool, PyData.canLayAll0 (blD bs) = true ∧ PyData.depthAll (blD bs) = 0
  | [] => ⟨rfl, rfl⟩
  | b :: r => by
    obtain ⟨h1, h2⟩ := canBls r
    constructor
    · show (true && PyData.canLayAll0 (blD r)) = true
      rw [h1]
      rfl
    · show max 0 (PyData.depthAll (blD r)) = 0
      rw [h2]
      rfl
theorem shBls (bs : List Bool) : SeqAt.shaped (.list (blD bs)) = true := by
  obtain ⟨h1, h2⟩ := canBls bs
  show (PyData.canLayAll0 (blD bs) && decide (PyData.depthAll (blD bs) + 1 ≤ 64)) = true
  rw [h1, h2]
  rfl
theorem eqBls (bs : List Bool) : PyData.eqv (.list (blD bs)) (.list (blD bs)) = true := SeqAt.eqv_refl _ (canBls bs).1
theorem sqT_same {H H1 : Hp} {a : Addr} {xs : List V} (h : SqT K H a xs) (s : Same H H1) : SqT K H1 a xs :=
  h.elim (fun h => .inl (h.elim (fun h => .inl (s _ _ h)) fun ⟨o, h⟩ => .inr ⟨o, s _ _ h⟩)) fun h => .inr h
mutual
theorem dp_same {H H1 : Hp} : ∀ {v : V} {d : PyData}, Dp K H v d → Same H H1 → Dp K H1 v d
  | _, _, .non, _ => .non
  | _, _, .bl b, _ => .bl b
  | _, _, .int i, _ => .int i
  | _, _, .str x, _ => .str x
  | _, _, .lst h r, s => .lst (s.seq h) (dpAll_same r s)
  | _, _, .tup h r, s => .tup (sqT_same h s) (dpAll_same r s)
theorem dpAll_same {H H1 : Hp} : ∀ {vs : List V} {ds : List PyData}, DpAll K H vs ds → Same H H1 → DpAll K H1 vs ds
  | _, _, .nil, _ => .nil
  | _, _, .cons h r, s => .cons (dp_same h s) (dpAll_same r s)
end
theorem tyX_same {H H1 : Hp} {v : V} {t : Value} (h : TyX K H v t) (s : Same H H1) : TyX K H1 v t := by
  cases h with
  | base b =>
    cases b with
    | non => exact .base .non
    | bl x => exact .base (.bl x)
    | int i => exact .base (.int i)
    | str x => exact .base (.str x)
    | flt x => exact .base (.flt x)
    | lst e => exact .base (.lst (s _ _ e))
    | frz e => exact .base (.frz (s _ _ e))
    | tup e => exact .base (.tup (s _ _ e))
    | dK e => exact .base (.dK (s _ _ e))
    | dT e => exact .base (.dT (s _ _ e))
    | ins e a b c d f => exact .base (.ins (s _ _ e) a b c d f)
  | byt b => exact .byt b
  | set e => exact .set (s _ _ e)
  | kList e c => exact .kList e c
  | kTuple e c => exact .kTuple e c
  | kDict e c => exact .kDict e c
  | fTuple e => exact .fTuple (s _ _ e)
  | fDict e => exact .fDict (s _ _ e)
theorem Val.same {H H1 : Hp} {v : V} (h : Val K H v) (s : Same H H1) : Val K H1 v := by
  rcases h with ⟨d, T, h1, h2, h3, h4⟩ | ⟨a, xs, ds, e, h1, h2, h3⟩ | ⟨a, es, e, h1, h2⟩
  · exact .inl ⟨d, T, dp_same h1 s, h2, tyX_same h3 s, h4⟩
  · exact .inr (.inl ⟨a, xs, ds, e, s _ _ h1, fun H2 q => h2 H2 ((U.SameBut.of s).trans q), h3⟩)
  · exact .inr (.inr ⟨a, es, e, s _ _ h1, h2⟩)
theorem dp_len {H : Hp} : ∀ {vs : List V} {ds : List PyData}, DpAll K H vs ds → vs.length = ds.length
  | [], [], .nil => rfl
  | _ :: _, _ :: _, .cons _ r => congrArg Nat.succ (dp_len r)
def spRight : Sp := fun vs H Q _ => ∃ (b : Addr) (way n : Nat), vs = [.ref b, .int way] ∧ way < 23 ∧ U.BoxAt H b n ∧ n ≤ 80000 ∧ ∀ H', U.BoxAt H' b (n + 2) → U.SameBut b H H' → Q (.bl true) H'
theorem ok_law_right (T : Top K mg A) : FnG P w K mg base 4 A.a_law_right A.fd_law_right ["box", "way"] spRight := by
  refine okG T.F_law_right sc_law_right (fun vs H Q E h => ?_) (fun cdv A' outer s H vs Q E hG hr h => ?_)
  · obtain ⟨b, way, n, rfl, _⟩ := h
    rfl
  · obtain ⟨b, way, n, rfl, hw, bx, hn, k⟩ := h
    refine ⟨_, (pss_cons (ps_set (i := 2) sc_law_right.nd rfl (Or.inl rfl) (pe_call (ok_law_value T) (hr.mono (by decide)) rfl T.m_law_value T.F_law_value.kp T.b_law_value .nil pass0 (pa_cons (pv 0) pa_nil)))
    (pss_cons (ps_set (i := 3) sc_law_right.nd rfl (Or.inl rfl) (pe_call (ok_law_made T) (hr.mono (by decide)) rfl T.m_law_made T.F_law_made.kp T.b_law_made .nil pass0 (pa_cons (pv 1) (pa_cons (pv 2) pa_nil))))
    (pss_cons (ps_if (PW.pt (pw_or (pt_not (pt_val (pe_callB (call_isU) (by rfl) T.n_isinstance (by decide +kernel) (pa_cons (pv 3) (pa_cons (pe_glob (v := .ref A.c_KindError) rfl T.m_KindError rfl) pa_nil))))) (pw_or1 (pt_not (pt_val (pe_callB (call_isU) (by rfl) T.n_isinstance (by decide +kernel) (pa_cons (pv 3) (pa_cons (pe_bltn (v := .ty "ValueError") (by rfl) T.n_ValueError (by decide +kernel) rfl) pa_nil)))))))) (pss_one (ps_ret pe_bl)) pss_nil)
    (pss_cons (ps_if (pt_cmpR (U.uNe (K := K) rfl hr.units) (pe_call (ok_law_classes T) (hr.mono (by decide)) rfl T.m_law_classes T.F_law_classes.kp T.b_law_classes .nil pass0 (pa_cons (pv 3) pa_nil)) (pe_lc (own := [("k", 5)]) rfl sc_law_right.nd (pi_range1 (by rfl) T.n_range (pa_cons pe_int pa_nil)) (blkOk_by (own := [("k", 5)]) (N := nm_law_right) (sc := defScope s_law_right) (by decide +kernel)) (fun _ _ _ _ _ => (pg_name (i := 5) sc_law_right.nd rfl (Or.inl rfl))) (fun _ _ _ _ _ => pts_nil) (fun _ _ _ _ _ => (pe_cmpR (U.uEq (K := K) rfl hr.units) (pv 5) (pv 1) (nomark _)))) (nomark _)) (pss_one (ps_ret pe_bl)) pss_nil)
    (pss_cons (ps_if (pt_cmpR U.uGt (pv 1) pe_int (nomark _)) (pss_one (ps_ret pe_bl)) pss_nil)
    (pss_cons (ps_for PassesOwn.never rfl (pi_range1 (by rfl) T.n_range (pa_cons pe_int pa_nil)) (pg_name (i := 4) sc_law_right.nd rfl (Or.inl rfl)) (pss_cons (ps_if (pt_not (pt_val (pe_callG (ok_law_same T) hG (hr.mono (by decide)) rfl T.m_law_same T.F_law_same.kp T.b_law_same (pa_cons (pe_call (ok_law_field T) (hr.mono (by decide)) rfl T.m_law_field T.F_law_field.kp T.b_law_field .nil pass0 (pa_cons (pv 1) (pa_cons (pv 3) pa_nil))) (pa_cons (pv 2) pa_nil))))) (pss_one (ps_ret pe_bl)) pss_nil)
    (pss_cons (ps_if (pt_val (pe_callB (call_isU) (by rfl) T.n_isinstance (by decide +kernel) (pa_cons (pv 2) (pa_cons (pe_bltn (v := .ty "list") (by rfl) T.n_list (by decide +kernel) rfl) pa_nil)))) (pss_one (ps_expr (pe_bm PySem.F.plainAttrs_list PySem.F.slot_list_append PySem.F.type_list_append mt_append (pv 2) (pa_cons (pv 1) pa_nil)))) pss_nil)
    (pss_one (ps_if (pt_val (pe_callB (call_isU) (by rfl) T.n_isinstance (by decide +kernel) (pa_cons (pv 2) (pa_cons (pe_bltn (v := .ty "dict") (by rfl) T.n_dict (by decide +kernel) rfl) pa_nil)))) (pss_one (ps_asg (pv 4) (pg_sub (pv 2) (pv 1) (set_dict (Nat.lt_of_le_of_lt (Nat.add_le_add_left (m := 64) (n := 1) (by decide) _) hr.units))))) pss_nil)))))
    (pss_one (ps_ret pe_bl)))))))), ?_⟩
    walk_at "w"
    refine ⟨b, n, rfl, bx, by omega, fun v H1 hv fv bx1 s1 => ?_⟩
    walk_at "w"
    intro x D H2 s2 hD hx hf
    obtain ⟨hC, nKE⟩ := cls_ok T hD
    walk_at "w"
    refine Or.inr ⟨x, D, _, _, true, rfl, hx, hC.1, .own _, kitK hC ⟨_, T.cl_KindError.choose_spec.1⟩ T.ty_KindError nKE, ?_⟩
    walk_at "w"
    refine Or.inr ⟨x, D, _, _, true, rfl, hx, hC.1, .ty _, kitV hC, ?_⟩
    walk_at "w"
    refine ⟨x, D, rfl, hx, hC, fun p H3 s3 g3 => ?_⟩
    walk_at "w"
    intro D2 nD2
    refine lc_range (fun j Hj => Same H3 Hj ∧ Hj D2 = some (.lst ((List.range j).map fun i => V.bl (decide (i = way))))) ⟨U.same_new nD2, upd_same⟩ ?_ ?_
    · rintro j Hj hj ⟨sj, gj⟩
      refine ⟨rfl, ?_⟩
      walk_at "w"
      refine ⟨_, gj, U.szl (by
        rw [List.length_map, List.length_range]
        have h : j < 23 := hj
        omega), fun c o e => ?_, ?_⟩
      · rw [upd_ne (ne_of_none e nD2)]
        exact sj _ _ e
      · rw [upd_same, List.range_succ, List.map_append]
        have e : decide (V.int (0 + (j : Int)) = V.int (way : Int)) = decide (j = way) := by
          refine decide_eq_decide.mpr ⟨fun q => ?_, fun q => by rw [q, Int.zero_add]⟩
          have := V.int.inj q
          omega
        rw [e]
        rfl
    · rintro Hj ⟨sj, gj⟩
      have gj : Hj D2 = some (.lst (((List.range 23).map fun i => decide (i = way)).map V.bl)) := by
        rw [List.map_map]
        exact gj
      have gp : Hj p = some (.lst (((List.range 23).map fun i => decide (i = way)).map V.bl)) := by
        rw [← cls_bools T hD, List.map_map]
        exact sj _ _ g3
      refine Or.inr ⟨_, _, .lst (SqL.of gp) (dpBls _), .lst (SqL.of gj) (dpBls _), shBls _, shBls _, ?_⟩
      refine ⟨_, rfl, ?_⟩
      refine U.ifB false (by rw [eqBls] <;> rfl) ?_
      have sx : Same H2 Hj := s3.trans sj
      have hx := hx.same sx
      have bxj : U.BoxAt Hj b (n + 2) := (bx1.same s2).same sx
      have sb : U.SameBut b H Hj := s1.trans (U.SameBut.of (s2.trans sx))
      walk_at "w"
      refine U.ifD (fun h18 => ?_) (fun h18 => ?_)
      · exact k _ bxj sb
      · obtain ⟨dx, f, hfo, e1, e2⟩ := hf (by omega)
        have e1 := sx _ _ e1
        have e2 := sx _ _ e2
        have hv : Val K Hj v := hv.same (s2.trans sx)
        have w19 : way < 19 := by omega
        clear hx s2 s3 sj g3 gj gp nD2 sx hf s1 bx1 h18
        walk_at "w"
        have hwS : Sml (way : Int) := by
          show (way : Int).natAbs < _
          omega
        refine U.forR (fun j σ Hj => ∃ v4 v5 : Option V, σ = [some (.ref b), some (.int (way : Int)), some v, some (.ref x), v4, v5] ∧ U.BoxAt Hj b (n + 2) ∧ U.SameBut b H Hj ∧ Hj x = some (exo x D (some dx)) ∧ Hj dx = some (exd dx [(f, v)]) ∧ (j < 2 → WV j K Hj v))
          ⟨_, _, rfl, bxj, sb, e1, e2, fun _ => .of hv⟩ ?_ ?_
        · clear e1 e2 hv bxj sb
          rintro j σ H3 hj ⟨v4, v5, rfl, bj, sj, x1, x2, hW⟩
          have hj : j < 2 := hj
          have hW := hW hj
          walk_at "w"
          refine ⟨way, x, D, dx, f, v, rfl, w19, hfo, x1, x2, fun H4 s4 => ?_⟩
          have x1 := s4 _ _ x1
          have x2 := s4 _ _ x2
          have b4 := bj.same s4
          have sj := sj.trans (U.SameBut.of s4)
          walk_at "w"
          rcases hW with ⟨d, Ty, dp, fo, ty, kl, kd⟩ | ⟨a, xs, ds, rfl, ha, rob, fl, it, len⟩ | ⟨a, es, rfl, ha, okd, e0, len⟩
          · refine ⟨v, d, rfl, .inl ⟨dp_same dp s4, fo.1⟩, fo.2, ?_⟩
            walk_at "w"
            refine Or.inl ⟨v, _, _, _, false, rfl, .ty _, tyX_same ty s4, kit_ty kl, ?_⟩
            walk_at "w"
            refine Or.inl ⟨v, _, _, _, false, rfl, .ty _, tyX_same ty s4, kit_ty kd, ?_⟩
            walk_at "w"
            exact fun _ => .inl ⟨d, Ty, dp_same dp s4, fo, tyX_same ty s4, kl, kd⟩
          · have ha4 := s4 _ _ ha
            have rob4 := rob H4 (U.SameBut.of s4)
            have za : a ≠ b := fun e => by
              obtain ⟨l, q2⟩ := box_get bx
              rw [← e, fv a rfl] at q2
              cases q2
            have zx : x ≠ a := ne_of x1 ha4 (fun z => by
              have z' : HO.ext _ = HO.lst xs := z
              cases z')
            have zd : dx ≠ a := ne_of x2 ha4 (fun z => by
              have z' : HO.ext _ = HO.lst xs := z
              cases z')
            refine ⟨.ref a, .list ds, rfl, .inl ⟨.lst (SqL.of ha4) rob4, fl.1⟩, fl.2, ?_⟩
            walk_at "w"
            refine Or.inl ⟨.ref a, _, _, _, true, rfl, .ty _, .base (.lst ha4), kit_ty (a := "list") (b := "list") (by decide +kernel), ?_⟩
            walk_at "w"
            refine Or.inl ⟨.ref a, _, _, _, false, rfl, .ty _, .base (.lst upd_same), kit_ty (a := "list") (b := "dict") (by decide +kernel), ?_⟩
            walk_at "w"
            refine ⟨?_, ?_, by rw [upd_ne zx]; exact x1, by rw [upd_ne zd]; exact x2, fun hj1 => .inr (.inl ⟨a, xs ++ [.int way], ds ++ [.int way], rfl, upd_same, fun H2 q => dp_app (.int _) (rob H2 (((U.SameBut.of s4).trans (U.SameBut.refl a H4).upd).trans q)), list_app (it (by omega)) hwS, fun z => absurd z (by omega), ?_⟩)⟩
            · obtain ⟨b0, b1, b2, e, r⟩ := b4
              exact ⟨b0, b1, b2, by rw [upd_ne (Ne.symm za)]; exact e, r⟩
            · intro c u hc hu
              rw [upd_ne (ne_of_none hu (fv a rfl))]
              exact sj _ _ hc hu
            · rw [List.length_append]
              show xs.length + 1 ≤ 6
              have := (it (by omega)).2.2.2.2
              have l2 := dp_len rob4
              omega
          · have ha4 := s4 _ _ ha
            have za : a ≠ b := fun e => by
              obtain ⟨l, q2⟩ := box_get bx
              rw [← e, fv a rfl] at q2
              cases q2
            have zx : x ≠ a := ne_of x1 ha4 (fun z => by
              have z' : HO.ext _ = HO.dK (dV es) := z
              cases z')
            have zd : dx ≠ a := ne_of x2 ha4 (fun z => by
              have z' : HO.ext _ = HO.dK (dV es) := z
              cases z')
            have htS : Sml (j : Int) := by
              show (j : Int).natAbs < _
              omega
            refine ⟨.ref a, dD es, rfl, .inr ⟨a, es, rfl, ha4, rfl⟩, okd, ?_⟩
            walk_at "w"
            refine Or.inl ⟨.ref a, _, _, _, false, rfl, .ty _, .base (.dK ha4), kit_ty (a := "dict") (b := "list") (by decide +kernel), ?_⟩
            walk_at "w"
            refine Or.inl ⟨.ref a, _, _, _, true, rfl, .ty _, .base (.dK ha4), kit_ty (a := "dict") (b := "dict") (by decide +kernel), ?_⟩
            walk_at "w"
            refine ⟨a, _, rfl, DPut.k (k := (Sum.inl (way : Int) : Key)) ha4 (U.szl (by unfold dV; rw [List.length_map]; omega)), ?_⟩
            refine ⟨_, _, rfl, ?_, ?_, by rw [upd_ne zx]; exact x1, by rw [upd_ne zd]; exact x2, fun hj1 => .inr (.inr ⟨a, es ++ [(.inl (way : Int), (j : Int))], rfl, by rw [upd_same, put_new (e0 (by omega))], put_ok (e0 (by omega)) hwS htS, fun z => absurd z (by omega), ?_⟩)⟩
            · obtain ⟨b0, b1, b2, e, r⟩ := b4
              exact ⟨b0, b1, b2, by rw [upd_ne (Ne.symm za)]; exact e, r⟩
            · intro c u hc hu
              rw [upd_ne (ne_of_none hu (fv a rfl))]
              exact sj _ _ hc hu
            · rw [List.length_append]
              show es.length + 1 ≤ 6
              rcases e0 (by omega) with rfl | ⟨n0, _, rfl⟩
              · decide
              · show 1 + 1 ≤ 6
                decide
        · rintro σ H3 ⟨v4, v5, rfl, bj, sj, _⟩
          exact k _ bj sj
end
section
variable {P : Program} {w : World} {K : PySem.W.Frag} {mg : Str → Option Value} {base : Heap} {A : Ad}
theorem cut_nV (ys : List Nat) (lo hi : Option Int) : ∃ zs : List Nat, cutV (nV ys) lo hi = nV zs ∧ zs.length ≤ ys.length ∧ ∀ z ∈ zs, z ∈ ys := by
  refine ⟨(ys.drop (HT.sIx (nV ys).length 0 lo)).take (HT.sIx (nV ys).length (nV ys).length hi - HT.sIx (nV ys).length 0 lo), ?_, ?_, fun z hz => List.mem_of_mem_drop (List.mem_of_mem_take hz)⟩
  · unfold cutV nV
    rw [List.map_take, List.map_drop]
  · rw [List.length_take, List.length_drop]
    omega
def spLaw (K : PySem.W.Frag) : Sp := fun vs H Q _ => ∃ (a : Addr) (ns : List Int), vs = [.ref a] ∧ SqL K H a (ns.map V.int) ∧ ns.length ≤ 63 ∧ ∀ H', Q (.bl true) H'
theorem ok_law (T : Top K mg A) : FnG P w K mg base 5 A.a_law A.fd_law ["script"] (spLaw K) := by
  refine okG T.F_law sc_law (fun vs H Q E h => ?_) (fun cdv A' outer s H vs Q E hG hr h => ?_)
  · obtain ⟨a, ns, rfl, _⟩ := h
    rfl
  · obtain ⟨a, ns, rfl, hS, hlen, k⟩ := h
    refine ⟨_, (pss_cons (ps_for PassesOwn.never rfl (pi_range1 (by rfl) T.n_range (pa_cons (pe_callB (call_max2 rfl) (by rfl) T.n_max (by decide +kernel) (pa_cons pe_int (pa_cons (pe_callB (call_min2 rfl) (by rfl) T.n_min (by decide +kernel) (pa_cons pe_int (pa_cons (pe_callB (U.uLen (K := K) rfl) (by rfl) T.n_len (by decide +kernel) (pa_cons (pv 0) pa_nil)) pa_nil))) pa_nil))) pa_nil)) (pg_name (i := 1) sc_law.nd rfl (Or.inl rfl)) (pss_cons (ps_set (i := 2) sc_law.nd rfl (Or.inl rfl) (pe_call (ok_law_box T) (hr.mono (by decide)) rfl T.m_law_box T.F_law_box.kp T.b_law_box .nil pass0 (pa_cons (pe_call (ok_law_cell T) (hr.mono (by decide)) rfl T.m_law_cell T.F_law_cell.kp T.b_law_cell .nil pass0 (pa_cons (pv 0) (pa_cons (pv 1) pa_nil))) pa_nil)))
    (pss_one (ps_for PassesOwn.never rfl (pi_list (pe_slice (U.uSl (K := K) rfl) (pe_call (ok_law_mixed T) (hr.mono (by decide)) rfl T.m_law_mixed T.F_law_mixed.kp T.b_law_mixed .nil pass0 (pa_cons (pv 2) (pa_cons (pe_listRg rfl rfl T.n_list (prg_1 rfl T.n_range pe_int)) pa_nil))) po_none (po_some pe_int))) (pg_name (i := 3) sc_law.nd rfl (Or.inl rfl)) (pss_one (ps_if (pt_not (pt_val (pe_callG (ok_law_right T) hG (hr.mono (by decide)) rfl T.m_law_right T.F_law_right.kp T.b_law_right (pa_cons (pv 2) (pa_cons (pv 3) pa_nil))))) (pss_one (ps_ret pe_bl)) pss_nil))))))
    (pss_one (ps_ret pe_bl))), ?_⟩
    walk_at "w"
    refine U.forR (fun i σ H' => ∃ v1 v2 v3 : Option V, σ = [some (.ref a), v1, v2, v3] ∧ Same H H') ⟨_, _, _, rfl, Same.refl _⟩ ?_ ?_
    · rintro i σ H' hi ⟨v1, v2, v3, rfl, sH⟩
      have hi : i < 100 := by
        refine Nat.lt_of_lt_of_le hi ?_
        rw [List.length_map]
        split <;> split <;> omega
      walk_at "w"
      refine ⟨a, ns, (i : Int), rfl, sH.seq hS, hlen, by omega, by omega, fun c H1 s1 => ?_⟩
      walk_at "w"
      intro p H2 np bx s2
      have np : H p = none := (sH.trans s1).free np
      have sH := (sH.trans s1).trans s2
      walk_at "w"
      intro q nq
      generalize hX : upd H2 q _ = H3
      obtain ⟨s3, g3⟩ := U.newF nq hX
      clear hX
      walk_at "w"
      refine ⟨p, q, 0, List.range 23, rfl, bx.same s3, by omega, g3, by decide, fun y hy => List.mem_range.mp hy, fun pl H4 ys sb bx4 npl gpl hys hyl => ?_⟩
      have sH4 := U.Same.but (sH.trans s3) sb np
      walk_at "w"
      refine Or.inr ⟨pl, _, rfl, SqL.of gpl, ?_⟩
      intro p2 np2
      obtain ⟨zs, ez, lz, hz⟩ := cut_nV ys none (some 12)
      rw [ez]
      generalize hX : upd H4 p2 _ = H5
      obtain ⟨s5, g5⟩ := U.newF np2 hX
      clear hX
      have bx5 := bx4.same s5
      have zp : p2 ≠ p := fun e => by
        obtain ⟨l, e2⟩ := box_get bx4
        rw [e, e2] at np2
        cases np2
      have sH5 := sH4.trans s5
      refine ⟨p2, rfl, ⟨_, SqL.of g5⟩, ?_⟩
      clear sb sH4 sH s1 s2 s3 s5 bx4 bx g3 gpl ez
      refine for_list (xs := nV zs) (fun j σ Hj => ∃ v3 : Option V, σ = [some (.ref a), some (.int (i : Int)), some (.ref p), v3] ∧ Same H Hj ∧ U.BoxAt Hj p (30 + 2 * j) ∧ Hj p2 = some (.lst (nV zs))) ⟨_, rfl, sH5, bx5, g5⟩ (fun j σ Hj _ h => SqL.of h.choose_spec.2.2.2) ?_ ?_
      · clear sH5 bx5 g5
        rintro j x σ Hj hx ⟨v3, rfl, sj, bj, gj⟩
        have hjl : j < zs.length := by
          obtain ⟨h1, _⟩ := List.getElem?_eq_some_iff.mp hx
          rw [len_nV] at h1
          exact h1
        obtain ⟨z, hzz⟩ : ∃ z, zs[j]? = some z := ⟨_, List.getElem?_eq_getElem hjl⟩
        have ex : x = V.int (z : Int) := by
          rw [get_nV hzz] at hx
          exact (Option.some.inj hx).symm
        subst ex
        walk_at "w"
        refine ⟨p, z, _, rfl, hys z (hz z (List.mem_of_getElem? hzz)), bj, by omega, fun H6 b6 s6 => ?_⟩
        walk_at "w"
        exact ⟨U.Same.but sj s6 np, b6.mono (by omega), s6 _ _ zp gj⟩
      · rintro σ Hj ⟨v3, rfl, sj, _⟩
        exact ⟨_, _, _, rfl, sj⟩
    · rintro σ H' ⟨v1, v2, v3, rfl, sH⟩
      exact k _
end
set_option maxHeartbeats 8000000 in
theorem all_mk {l : PySem.W.OpenLaw} {w : World} {K : PySem.W.Frag} {h : Heap} {mg : Str → Option Value} {fa : Addr} (X : K.In h) (G : h.Ns mainGlobals mg) (hfa : mg "law" = some (.ref fa))
    {od0 an0 od1 an1 od2 an2 od3 an3 od4 an4 od5 an5 od6 an6 od7 an7 od8 an8 od9 an9 od10 an10 od11 an11 od12 an12 od13 an13 od14 an14 od15 an15 od16 an16 od17 an17 od18 an18 od19 an19 od20 an20 od21 an21 od22 an22 od23 an23 od24 an24 od25 an25 od26 an26 od27 an27 od28 an28 od29 an29 : Option Addr} {sl0 sl1 sl2 sl3 sl4 sl5 sl6 sl7 sl8 sl9 sl10 sl11 sl12 sl13 sl14 sl15 sl16 sl17 sl18 sl19 sl20 sl21 sl22 sl23 sl24 sl25 sl26 sl27 sl28 sl29 : Array (Option Value)} {oc0 kV0 dc0 pm0 cd0 ct0 oc1 kV1 dc1 pm1 cd1 ct1 oc2 kV2 dc2 pm2 cd2 ct2 oc3 kV3 dc3 pm3 cd3 ct3 oc4 kV4 dc4 pm4 cd4 ct4 oc5 kV5 dc5 pm5 cd5 ct5 oc6 kV6 dc6 pm6 cd6 ct6 oc7 kV7 dc7 pm7 cd7 ct7 oc8 kV8 dc8 pm8 cd8 ct8 oc9 kV9 dc9 pm9 cd9 ct9 oc10 kV10 dc10 pm10 cd10 ct10 oc11 kV11 dc11 pm11 cd11 ct11 oc12 kV12 dc12 pm12 cd12 ct12 oc13 kV13 dc13 pm13 cd13 ct13 oc14 kV14 dc14 pm14 cd14 ct14 oc15 kV15 dc15 pm15 cd15 ct15 oc16 kV16 dc16 pm16 cd16 ct16 oc17 kV17 dc17 pm17 cd17 ct17 oc18 kV18 dc18 pm18 cd18 ct18 oc19 kV19 dc19 pm19 cd19 ct19 oc20 kV20 dc20 pm20 cd20 ct20 oc21 kV21 dc21 pm21 cd21 ct21 oc22 kV22 dc22 pm22 cd22 ct22 oc23 kV23 dc23 pm23 cd23 ct23 oc24 kV24 dc24 pm24 cd24 ct24 oc25 kV25 dc25 pm25 cd25 ct25 oc26 kV26 dc26 pm26 cd26 ct26 oc27 kV27 dc27 pm27 cd27 ct27 oc28 kV28 dc28 pm28 cd28 ct28 oc29 kV29 dc29 pm29 cd29 ct29 : Value}
    {f0 f1 f2 f3 f4 f5 f6 f7 f8 f9 f10 f11 f12 f13 f14 f15 f16 f17 f18 f19 f20 f21 f22 f23 f24 f25 f26 f27 f28 f29 C_KindError C_ByZero C_BadText C_Twice C_BadName C_BadFilling C_BadLine C_Unknown C_BadMacro C_BadTree C_BadPlace C_BadKnot C_NoKind C_BadKind C_BadForm C_BadDeeds C_BadWeight C_BadUnits C_BadBudget C_BadStep C_TooMany C_NoSuch C_NothingToUndo C_NothingToRedo : Addr}
    (aC_KindError : PySem.W.nsIn K mainGlobals "KindError" = some (some (.ref C_KindError)))
    (aC_ByZero : PySem.W.nsIn K mainGlobals "ByZero" = some (some (.ref C_ByZero)))
    (aC_BadText : PySem.W.nsIn K mainGlobals "BadText" = some (some (.ref C_BadText)))
    (aC_Twice : PySem.W.nsIn K mainGlobals "Twice" = some (some (.ref C_Twice)))
    (aC_BadName : PySem.W.nsIn K mainGlobals "BadName" = some (some (.ref C_BadName)))
    (aC_BadFilling : PySem.W.nsIn K mainGlobals "BadFilling" = some (some (.ref C_BadFilling)))
    (aC_BadLine : PySem.W.nsIn K mainGlobals "BadLine" = some (some (.ref C_BadLine)))
    (aC_Unknown : PySem.W.nsIn K mainGlobals "Unknown" = some (some (.ref C_Unknown)))
    (aC_BadMacro : PySem.W.nsIn K mainGlobals "BadMacro" = some (some (.ref C_BadMacro)))
    (aC_BadTree : PySem.W.nsIn K mainGlobals "BadTree" = some (some (.ref C_BadTree)))
    (aC_BadPlace : PySem.W.nsIn K mainGlobals "BadPlace" = some (some (.ref C_BadPlace)))
    (aC_BadKnot : PySem.W.nsIn K mainGlobals "BadKnot" = some (some (.ref C_BadKnot)))
    (aC_NoKind : PySem.W.nsIn K mainGlobals "NoKind" = some (some (.ref C_NoKind)))
    (aC_BadKind : PySem.W.nsIn K mainGlobals "BadKind" = some (some (.ref C_BadKind)))
    (aC_BadForm : PySem.W.nsIn K mainGlobals "BadForm" = some (some (.ref C_BadForm)))
    (aC_BadDeeds : PySem.W.nsIn K mainGlobals "BadDeeds" = some (some (.ref C_BadDeeds)))
    (aC_BadWeight : PySem.W.nsIn K mainGlobals "BadWeight" = some (some (.ref C_BadWeight)))
    (aC_BadUnits : PySem.W.nsIn K mainGlobals "BadUnits" = some (some (.ref C_BadUnits)))
    (aC_BadBudget : PySem.W.nsIn K mainGlobals "BadBudget" = some (some (.ref C_BadBudget)))
    (aC_BadStep : PySem.W.nsIn K mainGlobals "BadStep" = some (some (.ref C_BadStep)))
    (aC_TooMany : PySem.W.nsIn K mainGlobals "TooMany" = some (some (.ref C_TooMany)))
    (aC_NoSuch : PySem.W.nsIn K mainGlobals "NoSuch" = some (some (.ref C_NoSuch)))
    (aC_NothingToUndo : PySem.W.nsIn K mainGlobals "NothingToUndo" = some (some (.ref C_NothingToUndo)))
    (aC_NothingToRedo : PySem.W.nsIn K mainGlobals "NothingToRedo" = some (some (.ref C_NothingToRedo)))
    (a0 : PySem.W.findIn K (.ref C_BadText) "__init__" = some (some (.ref f0)))
    (l0 : K.lookup f0 = some ⟨oc0, od0, .func (PySem.W.fnOf "__init__" "BadText.__init__" (defArgs s_BadText_init) (defBody s_BadText_init) (defScope s_BadText_init) .none kV0 dc0 pm0 an0 cd0 ct0), sl0⟩)
    (e0 : PySem.W.codeIn K cd0 "BadText.__init__" = true)
    (k0 : PySem.W.keepIn K (.ref f0) = true)
    (a1 : PySem.W.findIn K (.ref C_Twice) "__init__" = some (some (.ref f1)))
    (l1 : K.lookup f1 = some ⟨oc1, od1, .func (PySem.W.fnOf "__init__" "Twice.__init__" (defArgs s_Twice_init) (defBody s_Twice_init) (defScope s_Twice_init) .none kV1 dc1 pm1 an1 cd1 ct1), sl1⟩)
    (e1 : PySem.W.codeIn K cd1 "Twice.__init__" = true)
    (k1 : PySem.W.keepIn K (.ref f1) = true)
    (a2 : PySem.W.findIn K (.ref C_BadName) "__init__" = some (some (.ref f2)))
    (l2 : K.lookup f2 = some ⟨oc2, od2, .func (PySem.W.fnOf "__init__" "BadName.__init__" (defArgs s_BadName_init) (defBody s_BadName_init) (defScope s_BadName_init) .none kV2 dc2 pm2 an2 cd2 ct2), sl2⟩)
    (e2 : PySem.W.codeIn K cd2 "BadName.__init__" = true)
    (k2 : PySem.W.keepIn K (.ref f2) = true)
    (a3 : PySem.W.findIn K (.ref C_BadFilling) "__init__" = some (some (.ref f3)))
    (l3 : K.lookup f3 = some ⟨oc3, od3, .func (PySem.W.fnOf "__init__" "BadFilling.__init__" (defArgs s_BadFilling_init) (defBody s_BadFilling_init) (defScope s_BadFilling_init) .none kV3 dc3 pm3 an3 cd3 ct3), sl3⟩)
    (e3 : PySem.W.codeIn K cd3 "BadFilling.__init__" = true)
    (k3 : PySem.W.keepIn K (.ref f3) = true)
    (a4 : PySem.W.findIn K (.ref C_BadLine) "__init__" = some (some (.ref f4)))
    (l4 : K.lookup f4 = some ⟨oc4, od4, .func (PySem.W.fnOf "__init__" "BadLine.__init__" (defArgs s_BadLine_init) (defBody s_BadLine_init) (defScope s_BadLine_init) .none kV4 dc4 pm4 an4 cd4 ct4), sl4⟩)
    (e4 : PySem.W.codeIn K cd4 "BadLine.__init__" = true)
    (k4 : PySem.W.keepIn K (.ref f4) = true)
    (a5 : PySem.W.findIn K (.ref C_Unknown) "__init__" = some (some (.ref f5)))
    (l5 : K.lookup f5 = some ⟨oc5, od5, .func (PySem.W.fnOf "__init__" "Unknown.__init__" (defArgs s_Unknown_init) (defBody s_Unknown_init) (defScope s_Unknown_init) .none kV5 dc5 pm5 an5 cd5 ct5), sl5⟩)
    (e5 : PySem.W.codeIn K cd5 "Unknown.__init__" = true)
    (k5 : PySem.W.keepIn K (.ref f5) = true)
    (a6 : PySem.W.findIn K (.ref C_BadMacro) "__init__" = some (some (.ref f6)))
    (l6 : K.lookup f6 = some ⟨oc6, od6, .func (PySem.W.fnOf "__init__" "BadMacro.__init__" (defArgs s_BadMacro_init) (defBody s_BadMacro_init) (defScope s_BadMacro_init) .none kV6 dc6 pm6 an6 cd6 ct6), sl6⟩)
    (e6 : PySem.W.codeIn K cd6 "BadMacro.__init__" = true)
    (k6 : PySem.W.keepIn K (.ref f6) = true)
    (a7 : PySem.W.findIn K (.ref C_BadTree) "__init__" = some (some (.ref f7)))
    (l7 : K.lookup f7 = some ⟨oc7, od7, .func (PySem.W.fnOf "__init__" "BadTree.__init__" (defArgs s_BadTree_init) (defBody s_BadTree_init) (defScope s_BadTree_init) .none kV7 dc7 pm7 an7 cd7 ct7), sl7⟩)
    (e7 : PySem.W.codeIn K cd7 "BadTree.__init__" = true)
    (k7 : PySem.W.keepIn K (.ref f7) = true)
    (a8 : PySem.W.findIn K (.ref C_BadPlace) "__init__" = some (some (.ref f8)))
    (l8 : K.lookup f8 = some ⟨oc8, od8, .func (PySem.W.fnOf "__init__" "BadPlace.__init__" (defArgs s_BadPlace_init) (defBody s_BadPlace_init) (defScope s_BadPlace_init) .none kV8 dc8 pm8 an8 cd8 ct8), sl8⟩)
    (e8 : PySem.W.codeIn K cd8 "BadPlace.__init__" = true)
    (k8 : PySem.W.keepIn K (.ref f8) = true)
    (a9 : PySem.W.findIn K (.ref C_BadKnot) "__init__" = some (some (.ref f9)))
    (l9 : K.lookup f9 = some ⟨oc9, od9, .func (PySem.W.fnOf "__init__" "BadKnot.__init__" (defArgs s_BadKnot_init) (defBody s_BadKnot_init) (defScope s_BadKnot_init) .none kV9 dc9 pm9 an9 cd9 ct9), sl9⟩)
    (e9 : PySem.W.codeIn K cd9 "BadKnot.__init__" = true)
    (k9 : PySem.W.keepIn K (.ref f9) = true)
    (a10 : PySem.W.findIn K (.ref C_BadKind) "__init__" = some (some (.ref f10)))
    (l10 : K.lookup f10 = some ⟨oc10, od10, .func (PySem.W.fnOf "__init__" "BadKind.__init__" (defArgs s_BadKind_init) (defBody s_BadKind_init) (defScope s_BadKind_init) .none kV10 dc10 pm10 an10 cd10 ct10), sl10⟩)
    (e10 : PySem.W.codeIn K cd10 "BadKind.__init__" = true)
    (k10 : PySem.W.keepIn K (.ref f10) = true)
    (a11 : PySem.W.findIn K (.ref C_BadForm) "__init__" = some (some (.ref f11)))
    (l11 : K.lookup f11 = some ⟨oc11, od11, .func (PySem.W.fnOf "__init__" "BadForm.__init__" (defArgs s_BadForm_init) (defBody s_BadForm_init) (defScope s_BadForm_init) .none kV11 dc11 pm11 an11 cd11 ct11), sl11⟩)
    (e11 : PySem.W.codeIn K cd11 "BadForm.__init__" = true)
    (k11 : PySem.W.keepIn K (.ref f11) = true)
    (a12 : PySem.W.findIn K (.ref C_BadDeeds) "__init__" = some (some (.ref f12)))
    (l12 : K.lookup f12 = some ⟨oc12, od12, .func (PySem.W.fnOf "__init__" "BadDeeds.__init__" (defArgs s_BadDeeds_init) (defBody s_BadDeeds_init) (defScope s_BadDeeds_init) .none kV12 dc12 pm12 an12 cd12 ct12), sl12⟩)
    (e12 : PySem.W.codeIn K cd12 "BadDeeds.__init__" = true)
    (k12 : PySem.W.keepIn K (.ref f12) = true)
    (a13 : PySem.W.findIn K (.ref C_BadWeight) "__init__" = some (some (.ref f13)))
    (l13 : K.lookup f13 = some ⟨oc13, od13, .func (PySem.W.fnOf "__init__" "BadWeight.__init__" (defArgs s_BadWeight_init) (defBody s_BadWeight_init) (defScope s_BadWeight_init) .none kV13 dc13 pm13 an13 cd13 ct13), sl13⟩)
    (e13 : PySem.W.codeIn K cd13 "BadWeight.__init__" = true)
    (k13 : PySem.W.keepIn K (.ref f13) = true)
    (a14 : PySem.W.findIn K (.ref C_BadUnits) "__init__" = some (some (.ref f14)))
    (l14 : K.lookup f14 = some ⟨oc14, od14, .func (PySem.W.fnOf "__init__" "BadUnits.__init__" (defArgs s_BadUnits_init) (defBody s_BadUnits_init) (defScope s_BadUnits_init) .none kV14 dc14 pm14 an14 cd14 ct14), sl14⟩)
    (e14 : PySem.W.codeIn K cd14 "BadUnits.__init__" = true)
    (k14 : PySem.W.keepIn K (.ref f14) = true)
    (a15 : PySem.W.findIn K (.ref C_BadBudget) "__init__" = some (some (.ref f15)))
    (l15 : K.lookup f15 = some ⟨oc15, od15, .func (PySem.W.fnOf "__init__" "BadBudget.__init__" (defArgs s_BadBudget_init) (defBody s_BadBudget_init) (defScope s_BadBudget_init) .none kV15 dc15 pm15 an15 cd15 ct15), sl15⟩)
    (e15 : PySem.W.codeIn K cd15 "BadBudget.__init__" = true)
    (k15 : PySem.W.keepIn K (.ref f15) = true)
    (a16 : PySem.W.findIn K (.ref C_BadStep) "__init__" = some (some (.ref f16)))
    (l16 : K.lookup f16 = some ⟨oc16, od16, .func (PySem.W.fnOf "__init__" "BadStep.__init__" (defArgs s_BadStep_init) (defBody s_BadStep_init) (defScope s_BadStep_init) .none kV16 dc16 pm16 an16 cd16 ct16), sl16⟩)
    (e16 : PySem.W.codeIn K cd16 "BadStep.__init__" = true)
    (k16 : PySem.W.keepIn K (.ref f16) = true)
    (a17 : PySem.W.findIn K (.ref C_TooMany) "__init__" = some (some (.ref f17)))
    (l17 : K.lookup f17 = some ⟨oc17, od17, .func (PySem.W.fnOf "__init__" "TooMany.__init__" (defArgs s_TooMany_init) (defBody s_TooMany_init) (defScope s_TooMany_init) .none kV17 dc17 pm17 an17 cd17 ct17), sl17⟩)
    (e17 : PySem.W.codeIn K cd17 "TooMany.__init__" = true)
    (k17 : PySem.W.keepIn K (.ref f17) = true)
    (a18 : PySem.W.findIn K (.ref C_NoSuch) "__init__" = some (some (.ref f18)))
    (l18 : K.lookup f18 = some ⟨oc18, od18, .func (PySem.W.fnOf "__init__" "NoSuch.__init__" (defArgs s_NoSuch_init) (defBody s_NoSuch_init) (defScope s_NoSuch_init) .none kV18 dc18 pm18 an18 cd18 ct18), sl18⟩)
    (e18 : PySem.W.codeIn K cd18 "NoSuch.__init__" = true)
    (k18 : PySem.W.keepIn K (.ref f18) = true)
    (a19 : PySem.W.nsIn K mainGlobals "_law_cell" = some (some (.ref f19)))
    (l19 : K.lookup f19 = some ⟨oc19, od19, .func (PySem.W.fnOf "_law_cell" "_law_cell" (defArgs s_law_cell) (defBody s_law_cell) (defScope s_law_cell) .none kV19 dc19 pm19 an19 cd19 ct19), sl19⟩)
    (e19 : PySem.W.codeIn K cd19 "_law_cell" = true)
    (k19 : PySem.W.keepIn K (.ref f19) = true)
    (a20 : PySem.W.nsIn K mainGlobals "_law_box" = some (some (.ref f20)))
    (l20 : K.lookup f20 = some ⟨oc20, od20, .func (PySem.W.fnOf "_law_box" "_law_box" (defArgs s_law_box) (defBody s_law_box) (defScope s_law_box) .none kV20 dc20 pm20 an20 cd20 ct20), sl20⟩)
    (e20 : PySem.W.codeIn K cd20 "_law_box" = true)
    (k20 : PySem.W.keepIn K (.ref f20) = true)
    (a21 : PySem.W.nsIn K mainGlobals "_law_take" = some (some (.ref f21)))
    (l21 : K.lookup f21 = some ⟨oc21, od21, .func (PySem.W.fnOf "_law_take" "_law_take" (defArgs s_law_take) (defBody s_law_take) (defScope s_law_take) .none kV21 dc21 pm21 an21 cd21 ct21), sl21⟩)
    (e21 : PySem.W.codeIn K cd21 "_law_take" = true)
    (k21 : PySem.W.keepIn K (.ref f21) = true)
    (a22 : PySem.W.nsIn K mainGlobals "_law_mixed" = some (some (.ref f22)))
    (l22 : K.lookup f22 = some ⟨oc22, od22, .func (PySem.W.fnOf "_law_mixed" "_law_mixed" (defArgs s_law_mixed) (defBody s_law_mixed) (defScope s_law_mixed) .none kV22 dc22 pm22 an22 cd22 ct22), sl22⟩)
    (e22 : PySem.W.codeIn K cd22 "_law_mixed" = true)
    (k22 : PySem.W.keepIn K (.ref f22) = true)
    (a23 : PySem.W.nsIn K mainGlobals "_law_value" = some (some (.ref f23)))
    (l23 : K.lookup f23 = some ⟨oc23, od23, .func (PySem.W.fnOf "_law_value" "_law_value" (defArgs s_law_value) (defBody s_law_value) (defScope s_law_value) .none kV23 dc23 pm23 an23 cd23 ct23), sl23⟩)
    (e23 : PySem.W.codeIn K cd23 "_law_value" = true)
    (k23 : PySem.W.keepIn K (.ref f23) = true)
    (a24 : PySem.W.nsIn K mainGlobals "_law_made" = some (some (.ref f24)))
    (l24 : K.lookup f24 = some ⟨oc24, od24, .func (PySem.W.fnOf "_law_made" "_law_made" (defArgs s_law_made) (defBody s_law_made) (defScope s_law_made) .none kV24 dc24 pm24 an24 cd24 ct24), sl24⟩)
    (e24 : PySem.W.codeIn K cd24 "_law_made" = true)
    (k24 : PySem.W.keepIn K (.ref f24) = true)
    (a25 : PySem.W.nsIn K mainGlobals "_law_field" = some (some (.ref f25)))
    (l25 : K.lookup f25 = some ⟨oc25, od25, .func (PySem.W.fnOf "_law_field" "_law_field" (defArgs s_law_field) (defBody s_law_field) (defScope s_law_field) .none kV25 dc25 pm25 an25 cd25 ct25), sl25⟩)
    (e25 : PySem.W.codeIn K cd25 "_law_field" = true)
    (k25 : PySem.W.keepIn K (.ref f25) = true)
    (a26 : PySem.W.nsIn K mainGlobals "_law_classes" = some (some (.ref f26)))
    (l26 : K.lookup f26 = some ⟨oc26, od26, .func (PySem.W.fnOf "_law_classes" "_law_classes" (defArgs s_law_classes) (defBody s_law_classes) (defScope s_law_classes) .none kV26 dc26 pm26 an26 cd26 ct26), sl26⟩)
    (e26 : PySem.W.codeIn K cd26 "_law_classes" = true)
    (k26 : PySem.W.keepIn K (.ref f26) = true)
    (a27 : PySem.W.nsIn K mainGlobals "_law_same" = some (some (.ref f27)))
    (l27 : K.lookup f27 = some ⟨oc27, od27, .func (PySem.W.fnOf "_law_same" "_law_same" (defArgs s_law_same) (defBody s_law_same) (defScope s_law_same) .none kV27 dc27 pm27 an27 cd27 ct27), sl27⟩)
    (e27 : PySem.W.codeIn K cd27 "_law_same" = true)
    (k27 : PySem.W.keepIn K (.ref f27) = true)
    (a28 : PySem.W.nsIn K mainGlobals "_law_right" = some (some (.ref f28)))
    (l28 : K.lookup f28 = some ⟨oc28, od28, .func (PySem.W.fnOf "_law_right" "_law_right" (defArgs s_law_right) (defBody s_law_right) (defScope s_law_right) .none kV28 dc28 pm28 an28 cd28 ct28), sl28⟩)
    (e28 : PySem.W.codeIn K cd28 "_law_right" = true)
    (k28 : PySem.W.keepIn K (.ref f28) = true)
    (a29 : PySem.W.nsIn K mainGlobals "law" = some (some (.ref f29)))
    (l29 : K.lookup f29 = some ⟨oc29, od29, .func (PySem.W.fnOf "law" "law" (defArgs s_law) (defBody s_law) (defScope s_law) .none kV29 dc29 pm29 an29 cd29 ct29), sl29⟩)
    (e29 : PySem.W.codeIn K cd29 "law" = true)
    (k29 : PySem.W.keepIn K (.ref f29) = true)
    (z_ValueError : PySem.W.nsIn K mainGlobals "ValueError" = some none)
    (z_abs : PySem.W.nsIn K mainGlobals "abs" = some none)
    (z_dict : PySem.W.nsIn K mainGlobals "dict" = some none)
    (z_isinstance : PySem.W.nsIn K mainGlobals "isinstance" = some none)
    (z_len : PySem.W.nsIn K mainGlobals "len" = some none)
    (z_list : PySem.W.nsIn K mainGlobals "list" = some none)
    (z_max : PySem.W.nsIn K mainGlobals "max" = some none)
    (z_min : PySem.W.nsIn K mainGlobals "min" = some none)
    (z_range : PySem.W.nsIn K mainGlobals "range" = some none)
    (z_repr : PySem.W.nsIn K mainGlobals "repr" = some none)
    (z_str : PySem.W.nsIn K mainGlobals "str" = some none)
    (z_sum : PySem.W.nsIn K mainGlobals "sum" = some none)
    (x_KindError : PySem.W.excIn K C_KindError [.type "ValueError", .type "Exception", .type "BaseException", .type "object"] "ValueError.__new__" = true)
    (k_KindError : PySem.W.keepIn K (.ref C_KindError) = true)
    (b_KindError : PySem.W.subIn K (.ref C_KindError) (.type "BaseException") = some true)
    (t_KindError : PySem.W.typeIn K (.ref C_KindError) = some (.type "type"))
    (i_KindError : PySem.W.isClsIn K C_KindError = true)
    (sC_KindError : PySem.W.subIn K (.ref C_KindError) (.ref C_KindError) = some true)
    {cd_KindError : ClassData}
    (cl_KindError : PySem.W.clsIn K C_KindError = some cd_KindError)
    (rf_KindError : cd_KindError.mro = .ref C_KindError :: [.type "ValueError", .type "Exception", .type "BaseException", .type "object"])
    (ty_KindError : PySem.W.typeIn K (.ref C_KindError) = some (.type "type"))
    (x_ByZero : PySem.W.excIn K C_ByZero [.type "ValueError", .type "Exception", .type "BaseException", .type "object"] "ValueError.__new__" = true)
    (k_ByZero : PySem.W.keepIn K (.ref C_ByZero) = true)
    (b_ByZero : PySem.W.subIn K (.ref C_ByZero) (.type "BaseException") = some true)
    (t_ByZero : PySem.W.typeIn K (.ref C_ByZero) = some (.type "type"))
    (i_ByZero : PySem.W.isClsIn K C_ByZero = true)
    (sC_ByZero : PySem.W.subIn K (.ref C_ByZero) (.ref C_ByZero) = some true)
    {cd_ByZero : ClassData}
    (cl_ByZero : PySem.W.clsIn K C_ByZero = some cd_ByZero)
    (rf_ByZero : cd_ByZero.mro = .ref C_ByZero :: [.ref C_KindError, .type "ValueError", .type "Exception", .type "BaseException", .type "object"])
    (ty_ByZero : PySem.W.typeIn K (.ref C_ByZero) = some (.type "type"))
    (eg_ByZero : PySem.W.findIn K (.ref C_ByZero) "__getattribute__" = some (some (.builtin "BaseException.__getattribute__")))
    (ek_ByZero : PySem.W.findIn K (.ref C_ByZero) "__getattr__" = some none)
    (es_ByZero : PySem.W.subIn K (.ref C_ByZero) (.type "BaseException") = some true)
    (ed_ByZero : PySem.W.hasDictIn K C_ByZero = true)
    (ea_ByZero : PySem.W.findIn K (.ref C_ByZero) "__class__" = some (some (.builtin "object.__class__")))
    (em_ByZero : PySem.W.mroIn K C_ByZero (.type "object") = some true)
    {cd_BadText : ClassData}
    (cl_BadText : PySem.W.clsIn K C_BadText = some cd_BadText)
    (rf_BadText : cd_BadText.mro = .ref C_BadText :: [.ref C_KindError, .type "ValueError", .type "Exception", .type "BaseException", .type "object"])
    (ty_BadText : PySem.W.typeIn K (.ref C_BadText) = some (.type "type"))
    (eg_BadText : PySem.W.findIn K (.ref C_BadText) "__getattribute__" = some (some (.builtin "BaseException.__getattribute__")))
    (ek_BadText : PySem.W.findIn K (.ref C_BadText) "__getattr__" = some none)
    (es_BadText : PySem.W.subIn K (.ref C_BadText) (.type "BaseException") = some true)
    (ed_BadText : PySem.W.hasDictIn K C_BadText = true)
    (ea_BadText : PySem.W.findIn K (.ref C_BadText) "__class__" = some (some (.builtin "object.__class__")))
    (em_BadText : PySem.W.mroIn K C_BadText (.type "object") = some true)
    {nm_BadText q_BadText : Str} {N_BadText : Addr} {bs_BadText : List Value} {sn_BadText : List Str} {sub_BadText : List Value} {ab_BadText : Bool} {col_BadText : Option Bool} {dd_BadText : Option Addr} {m0_BadText m1_BadText m2_BadText m3_BadText m5_BadText : Option Value}
    (xL_BadText : K.lookup C_BadText = some (excClassObj nm_BadText q_BadText C_BadText N_BadText bs_BadText [.ref C_KindError, .type "ValueError", .type "Exception", .type "BaseException", .type "object"] true sn_BadText sub_BadText ab_BadText col_BadText dd_BadText m0_BadText m1_BadText m2_BadText m3_BadText m5_BadText "ValueError.__new__"))
    (sa_BadText : PySem.W.findIn K (.ref C_BadText) "__setattr__" = some (some (.builtin "object.__setattr__")))
    (ga_BadText : PySem.W.findIn K (.ref C_BadText) "__getattribute__" = some (some (.builtin "BaseException.__getattribute__")))
    (gg_BadText : PySem.W.findIn K (.ref C_BadText) "__getattr__" = some none)
    (eC_BadText : PySem.W.subIn K (.ref C_BadText) (.type "BaseException") = some true)
    (tC_BadText : PySem.W.typeIn K (.ref C_BadText) = some (.type "type"))
    (kC_BadText : PySem.W.keepIn K (.ref C_BadText) = true)
    (hC_BadText : PySem.W.hasDictIn K C_BadText = true)
    (iC_BadText : PySem.W.isClsIn K C_BadText = true)
    (sC_BadText : PySem.W.subIn K (.ref C_BadText) (.ref C_BadText) = some true)
    (tI_BadText : PySem.W.typeIn K (.ref f0) = some (.type "function"))
    (no_BadText_at : PySem.W.findIn K (.ref C_BadText) "at" = some none)
    {cd_Twice : ClassData}
    (cl_Twice : PySem.W.clsIn K C_Twice = some cd_Twice)
    (rf_Twice : cd_Twice.mro = .ref C_Twice :: [.ref C_KindError, .type "ValueError", .type "Exception", .type "BaseException", .type "object"])
    (ty_Twice : PySem.W.typeIn K (.ref C_Twice) = some (.type "type"))
    (eg_Twice : PySem.W.findIn K (.ref C_Twice) "__getattribute__" = some (some (.builtin "BaseException.__getattribute__")))
    (ek_Twice : PySem.W.findIn K (.ref C_Twice) "__getattr__" = some none)
    (es_Twice : PySem.W.subIn K (.ref C_Twice) (.type "BaseException") = some true)
    (ed_Twice : PySem.W.hasDictIn K C_Twice = true)
    (ea_Twice : PySem.W.findIn K (.ref C_Twice) "__class__" = some (some (.builtin "object.__class__")))
    (em_Twice : PySem.W.mroIn K C_Twice (.type "object") = some true)
    {nm_Twice q_Twice : Str} {N_Twice : Addr} {bs_Twice : List Value} {sn_Twice : List Str} {sub_Twice : List Value} {ab_Twice : Bool} {col_Twice : Option Bool} {dd_Twice : Option Addr} {m0_Twice m1_Twice m2_Twice m3_Twice m5_Twice : Option Value}
    (xL_Twice : K.lookup C_Twice = some (excClassObj nm_Twice q_Twice C_Twice N_Twice bs_Twice [.ref C_KindError, .type "ValueError", .type "Exception", .type "BaseException", .type "object"] true sn_Twice sub_Twice ab_Twice col_Twice dd_Twice m0_Twice m1_Twice m2_Twice m3_Twice m5_Twice "ValueError.__new__"))
    (sa_Twice : PySem.W.findIn K (.ref C_Twice) "__setattr__" = some (some (.builtin "object.__setattr__")))
    (ga_Twice : PySem.W.findIn K (.ref C_Twice) "__getattribute__" = some (some (.builtin "BaseException.__getattribute__")))
    (gg_Twice : PySem.W.findIn K (.ref C_Twice) "__getattr__" = some none)
    (eC_Twice : PySem.W.subIn K (.ref C_Twice) (.type "BaseException") = some true)
    (tC_Twice : PySem.W.typeIn K (.ref C_Twice) = some (.type "type"))
    (kC_Twice : PySem.W.keepIn K (.ref C_Twice) = true)
    (hC_Twice : PySem.W.hasDictIn K C_Twice = true)
    (iC_Twice : PySem.W.isClsIn K C_Twice = true)
    (sC_Twice : PySem.W.subIn K (.ref C_Twice) (.ref C_Twice) = some true)
    (tI_Twice : PySem.W.typeIn K (.ref f1) = some (.type "function"))
    (no_Twice_name : PySem.W.findIn K (.ref C_Twice) "name" = some none)
    {cd_BadName : ClassData}
    (cl_BadName : PySem.W.clsIn K C_BadName = some cd_BadName)
    (rf_BadName : cd_BadName.mro = .ref C_BadName :: [.ref C_KindError, .type "ValueError", .type "Exception", .type "BaseException", .type "object"])
    (ty_BadName : PySem.W.typeIn K (.ref C_BadName) = some (.type "type"))
    (eg_BadName : PySem.W.findIn K (.ref C_BadName) "__getattribute__" = some (some (.builtin "BaseException.__getattribute__")))
    (ek_BadName : PySem.W.findIn K (.ref C_BadName) "__getattr__" = some none)
    (es_BadName : PySem.W.subIn K (.ref C_BadName) (.type "BaseException") = some true)
    (ed_BadName : PySem.W.hasDictIn K C_BadName = true)
    (ea_BadName : PySem.W.findIn K (.ref C_BadName) "__class__" = some (some (.builtin "object.__class__")))
    (em_BadName : PySem.W.mroIn K C_BadName (.type "object") = some true)
    {nm_BadName q_BadName : Str} {N_BadName : Addr} {bs_BadName : List Value} {sn_BadName : List Str} {sub_BadName : List Value} {ab_BadName : Bool} {col_BadName : Option Bool} {dd_BadName : Option Addr} {m0_BadName m1_BadName m2_BadName m3_BadName m5_BadName : Option Value}
    (xL_BadName : K.lookup C_BadName = some (excClassObj nm_BadName q_BadName C_BadName N_BadName bs_BadName [.ref C_KindError, .type "ValueError", .type "Exception", .type "BaseException", .type "object"] true sn_BadName sub_BadName ab_BadName col_BadName dd_BadName m0_BadName m1_BadName m2_BadName m3_BadName m5_BadName "ValueError.__new__"))
    (sa_BadName : PySem.W.findIn K (.ref C_BadName) "__setattr__" = some (some (.builtin "object.__setattr__")))
    (ga_BadName : PySem.W.findIn K (.ref C_BadName) "__getattribute__" = some (some (.builtin "BaseException.__getattribute__")))
    (gg_BadName : PySem.W.findIn K (.ref C_BadName) "__getattr__" = some none)
    (eC_BadName : PySem.W.subIn K (.ref C_BadName) (.type "BaseException") = some true)
    (tC_BadName : PySem.W.typeIn K (.ref C_BadName) = some (.type "type"))
    (kC_BadName : PySem.W.keepIn K (.ref C_BadName) = true)
    (hC_BadName : PySem.W.hasDictIn K C_BadName = true)
    (iC_BadName : PySem.W.isClsIn K C_BadName = true)
    (sC_BadName : PySem.W.subIn K (.ref C_BadName) (.ref C_BadName) = some true)
    (tI_BadName : PySem.W.typeIn K (.ref f2) = some (.type "function"))
    (no_BadName_name : PySem.W.findIn K (.ref C_BadName) "name" = some none)
    {cd_BadFilling : ClassData}
    (cl_BadFilling : PySem.W.clsIn K C_BadFilling = some cd_BadFilling)
    (rf_BadFilling : cd_BadFilling.mro = .ref C_BadFilling :: [.ref C_KindError, .type "ValueError", .type "Exception", .type "BaseException", .type "object"])
    (ty_BadFilling : PySem.W.typeIn K (.ref C_BadFilling) = some (.type "type"))
    (eg_BadFilling : PySem.W.findIn K (.ref C_BadFilling) "__getattribute__" = some (some (.builtin "BaseException.__getattribute__")))
    (ek_BadFilling : PySem.W.findIn K (.ref C_BadFilling) "__getattr__" = some none)
    (es_BadFilling : PySem.W.subIn K (.ref C_BadFilling) (.type "BaseException") = some true)
    (ed_BadFilling : PySem.W.hasDictIn K C_BadFilling = true)
    (ea_BadFilling : PySem.W.findIn K (.ref C_BadFilling) "__class__" = some (some (.builtin "object.__class__")))
    (em_BadFilling : PySem.W.mroIn K C_BadFilling (.type "object") = some true)
    {nm_BadFilling q_BadFilling : Str} {N_BadFilling : Addr} {bs_BadFilling : List Value} {sn_BadFilling : List Str} {sub_BadFilling : List Value} {ab_BadFilling : Bool} {col_BadFilling : Option Bool} {dd_BadFilling : Option Addr} {m0_BadFilling m1_BadFilling m2_BadFilling m3_BadFilling m5_BadFilling : Option Value}
    (xL_BadFilling : K.lookup C_BadFilling = some (excClassObj nm_BadFilling q_BadFilling C_BadFilling N_BadFilling bs_BadFilling [.ref C_KindError, .type "ValueError", .type "Exception", .type "BaseException", .type "object"] true sn_BadFilling sub_BadFilling ab_BadFilling col_BadFilling dd_BadFilling m0_BadFilling m1_BadFilling m2_BadFilling m3_BadFilling m5_BadFilling "ValueError.__new__"))
    (sa_BadFilling : PySem.W.findIn K (.ref C_BadFilling) "__setattr__" = some (some (.builtin "object.__setattr__")))
    (ga_BadFilling : PySem.W.findIn K (.ref C_BadFilling) "__getattribute__" = some (some (.builtin "BaseException.__getattribute__")))
    (gg_BadFilling : PySem.W.findIn K (.ref C_BadFilling) "__getattr__" = some none)
    (eC_BadFilling : PySem.W.subIn K (.ref C_BadFilling) (.type "BaseException") = some true)
    (tC_BadFilling : PySem.W.typeIn K (.ref C_BadFilling) = some (.type "type"))
    (kC_BadFilling : PySem.W.keepIn K (.ref C_BadFilling) = true)
    (hC_BadFilling : PySem.W.hasDictIn K C_BadFilling = true)
    (iC_BadFilling : PySem.W.isClsIn K C_BadFilling = true)
    (sC_BadFilling : PySem.W.subIn K (.ref C_BadFilling) (.ref C_BadFilling) = some true)
    (tI_BadFilling : PySem.W.typeIn K (.ref f3) = some (.type "function"))
    (no_BadFilling_name : PySem.W.findIn K (.ref C_BadFilling) "name" = some none)
    {cd_BadLine : ClassData}
    (cl_BadLine : PySem.W.clsIn K C_BadLine = some cd_BadLine)
    (rf_BadLine : cd_BadLine.mro = .ref C_BadLine :: [.ref C_KindError, .type "ValueError", .type "Exception", .type "BaseException", .type "object"])
    (ty_BadLine : PySem.W.typeIn K (.ref C_BadLine) = some (.type "type"))
    (eg_BadLine : PySem.W.findIn K (.ref C_BadLine) "__getattribute__" = some (some (.builtin "BaseException.__getattribute__")))
    (ek_BadLine : PySem.W.findIn K (.ref C_BadLine) "__getattr__" = some none)
    (es_BadLine : PySem.W.subIn K (.ref C_BadLine) (.type "BaseException") = some true)
    (ed_BadLine : PySem.W.hasDictIn K C_BadLine = true)
    (ea_BadLine : PySem.W.findIn K (.ref C_BadLine) "__class__" = some (some (.builtin "object.__class__")))
    (em_BadLine : PySem.W.mroIn K C_BadLine (.type "object") = some true)
    {nm_BadLine q_BadLine : Str} {N_BadLine : Addr} {bs_BadLine : List Value} {sn_BadLine : List Str} {sub_BadLine : List Value} {ab_BadLine : Bool} {col_BadLine : Option Bool} {dd_BadLine : Option Addr} {m0_BadLine m1_BadLine m2_BadLine m3_BadLine m5_BadLine : Option Value}
    (xL_BadLine : K.lookup C_BadLine = some (excClassObj nm_BadLine q_BadLine C_BadLine N_BadLine bs_BadLine [.ref C_KindError, .type "ValueError", .type "Exception", .type "BaseException", .type "object"] true sn_BadLine sub_BadLine ab_BadLine col_BadLine dd_BadLine m0_BadLine m1_BadLine m2_BadLine m3_BadLine m5_BadLine "ValueError.__new__"))
    (sa_BadLine : PySem.W.findIn K (.ref C_BadLine) "__setattr__" = some (some (.builtin "object.__setattr__")))
    (ga_BadLine : PySem.W.findIn K (.ref C_BadLine) "__getattribute__" = some (some (.builtin "BaseException.__getattribute__")))
    (gg_BadLine : PySem.W.findIn K (.ref C_BadLine) "__getattr__" = some none)
    (eC_BadLine : PySem.W.subIn K (.ref C_BadLine) (.type "BaseException") = some true)
    (tC_BadLine : PySem.W.typeIn K (.ref C_BadLine) = some (.type "type"))
    (kC_BadLine : PySem.W.keepIn K (.ref C_BadLine) = true)
    (hC_BadLine : PySem.W.hasDictIn K C_BadLine = true)
    (iC_BadLine : PySem.W.isClsIn K C_BadLine = true)
    (sC_BadLine : PySem.W.subIn K (.ref C_BadLine) (.ref C_BadLine) = some true)
    (tI_BadLine : PySem.W.typeIn K (.ref f4) = some (.type "function"))
    (no_BadLine_number : PySem.W.findIn K (.ref C_BadLine) "number" = some none)
    {cd_Unknown : ClassData}
    (cl_Unknown : PySem.W.clsIn K C_Unknown = some cd_Unknown)
    (rf_Unknown : cd_Unknown.mro = .ref C_Unknown :: [.ref C_KindError, .type "ValueError", .type "Exception", .type "BaseException", .type "object"])
    (ty_Unknown : PySem.W.typeIn K (.ref C_Unknown) = some (.type "type"))
    (eg_Unknown : PySem.W.findIn K (.ref C_Unknown) "__getattribute__" = some (some (.builtin "BaseException.__getattribute__")))
    (ek_Unknown : PySem.W.findIn K (.ref C_Unknown) "__getattr__" = some none)
    (es_Unknown : PySem.W.subIn K (.ref C_Unknown) (.type "BaseException") = some true)
    (ed_Unknown : PySem.W.hasDictIn K C_Unknown = true)
    (ea_Unknown : PySem.W.findIn K (.ref C_Unknown) "__class__" = some (some (.builtin "object.__class__")))
    (em_Unknown : PySem.W.mroIn K C_Unknown (.type "object") = some true)
    {nm_Unknown q_Unknown : Str} {N_Unknown : Addr} {bs_Unknown : List Value} {sn_Unknown : List Str} {sub_Unknown : List Value} {ab_Unknown : Bool} {col_Unknown : Option Bool} {dd_Unknown : Option Addr} {m0_Unknown m1_Unknown m2_Unknown m3_Unknown m5_Unknown : Option Value}
    (xL_Unknown : K.lookup C_Unknown = some (excClassObj nm_Unknown q_Unknown C_Unknown N_Unknown bs_Unknown [.ref C_KindError, .type "ValueError", .type "Exception", .type "BaseException", .type "object"] true sn_Unknown sub_Unknown ab_Unknown col_Unknown dd_Unknown m0_Unknown m1_Unknown m2_Unknown m3_Unknown m5_Unknown "ValueError.__new__"))
    (sa_Unknown : PySem.W.findIn K (.ref C_Unknown) "__setattr__" = some (some (.builtin "object.__setattr__")))
    (ga_Unknown : PySem.W.findIn K (.ref C_Unknown) "__getattribute__" = some (some (.builtin "BaseException.__getattribute__")))
    (gg_Unknown : PySem.W.findIn K (.ref C_Unknown) "__getattr__" = some none)
    (eC_Unknown : PySem.W.subIn K (.ref C_Unknown) (.type "BaseException") = some true)
    (tC_Unknown : PySem.W.typeIn K (.ref C_Unknown) = some (.type "type"))
    (kC_Unknown : PySem.W.keepIn K (.ref C_Unknown) = true)
    (hC_Unknown : PySem.W.hasDictIn K C_Unknown = true)
    (iC_Unknown : PySem.W.isClsIn K C_Unknown = true)
    (sC_Unknown : PySem.W.subIn K (.ref C_Unknown) (.ref C_Unknown) = some true)
    (tI_Unknown : PySem.W.typeIn K (.ref f5) = some (.type "function"))
    (no_Unknown_name : PySem.W.findIn K (.ref C_Unknown) "name" = some none)
    {cd_BadMacro : ClassData}
    (cl_BadMacro : PySem.W.clsIn K C_BadMacro = some cd_BadMacro)
    (rf_BadMacro : cd_BadMacro.mro = .ref C_BadMacro :: [.ref C_KindError, .type "ValueError", .type "Exception", .type "BaseException", .type "object"])
    (ty_BadMacro : PySem.W.typeIn K (.ref C_BadMacro) = some (.type "type"))
    (eg_BadMacro : PySem.W.findIn K (.ref C_BadMacro) "__getattribute__" = some (some (.builtin "BaseException.__getattribute__")))
    (ek_BadMacro : PySem.W.findIn K (.ref C_BadMacro) "__getattr__" = some none)
    (es_BadMacro : PySem.W.subIn K (.ref C_BadMacro) (.type "BaseException") = some true)
    (ed_BadMacro : PySem.W.hasDictIn K C_BadMacro = true)
    (ea_BadMacro : PySem.W.findIn K (.ref C_BadMacro) "__class__" = some (some (.builtin "object.__class__")))
    (em_BadMacro : PySem.W.mroIn K C_BadMacro (.type "object") = some true)
    {nm_BadMacro q_BadMacro : Str} {N_BadMacro : Addr} {bs_BadMacro : List Value} {sn_BadMacro : List Str} {sub_BadMacro : List Value} {ab_BadMacro : Bool} {col_BadMacro : Option Bool} {dd_BadMacro : Option Addr} {m0_BadMacro m1_BadMacro m2_BadMacro m3_BadMacro m5_BadMacro : Option Value}
    (xL_BadMacro : K.lookup C_BadMacro = some (excClassObj nm_BadMacro q_BadMacro C_BadMacro N_BadMacro bs_BadMacro [.ref C_KindError, .type "ValueError", .type "Exception", .type "BaseException", .type "object"] true sn_BadMacro sub_BadMacro ab_BadMacro col_BadMacro dd_BadMacro m0_BadMacro m1_BadMacro m2_BadMacro m3_BadMacro m5_BadMacro "ValueError.__new__"))
    (sa_BadMacro : PySem.W.findIn K (.ref C_BadMacro) "__setattr__" = some (some (.builtin "object.__setattr__")))
    (ga_BadMacro : PySem.W.findIn K (.ref C_BadMacro) "__getattribute__" = some (some (.builtin "BaseException.__getattribute__")))
    (gg_BadMacro : PySem.W.findIn K (.ref C_BadMacro) "__getattr__" = some none)
    (eC_BadMacro : PySem.W.subIn K (.ref C_BadMacro) (.type "BaseException") = some true)
    (tC_BadMacro : PySem.W.typeIn K (.ref C_BadMacro) = some (.type "type"))
    (kC_BadMacro : PySem.W.keepIn K (.ref C_BadMacro) = true)
    (hC_BadMacro : PySem.W.hasDictIn K C_BadMacro = true)
    (iC_BadMacro : PySem.W.isClsIn K C_BadMacro = true)
    (sC_BadMacro : PySem.W.subIn K (.ref C_BadMacro) (.ref C_BadMacro) = some true)
    (tI_BadMacro : PySem.W.typeIn K (.ref f6) = some (.type "function"))
    (no_BadMacro_name : PySem.W.findIn K (.ref C_BadMacro) "name" = some none)
    {cd_BadTree : ClassData}
    (cl_BadTree : PySem.W.clsIn K C_BadTree = some cd_BadTree)
    (rf_BadTree : cd_BadTree.mro = .ref C_BadTree :: [.ref C_KindError, .type "ValueError", .type "Exception", .type "BaseException", .type "object"])
    (ty_BadTree : PySem.W.typeIn K (.ref C_BadTree) = some (.type "type"))
    (eg_BadTree : PySem.W.findIn K (.ref C_BadTree) "__getattribute__" = some (some (.builtin "BaseException.__getattribute__")))
    (ek_BadTree : PySem.W.findIn K (.ref C_BadTree) "__getattr__" = some none)
    (es_BadTree : PySem.W.subIn K (.ref C_BadTree) (.type "BaseException") = some true)
    (ed_BadTree : PySem.W.hasDictIn K C_BadTree = true)
    (ea_BadTree : PySem.W.findIn K (.ref C_BadTree) "__class__" = some (some (.builtin "object.__class__")))
    (em_BadTree : PySem.W.mroIn K C_BadTree (.type "object") = some true)
    {nm_BadTree q_BadTree : Str} {N_BadTree : Addr} {bs_BadTree : List Value} {sn_BadTree : List Str} {sub_BadTree : List Value} {ab_BadTree : Bool} {col_BadTree : Option Bool} {dd_BadTree : Option Addr} {m0_BadTree m1_BadTree m2_BadTree m3_BadTree m5_BadTree : Option Value}
    (xL_BadTree : K.lookup C_BadTree = some (excClassObj nm_BadTree q_BadTree C_BadTree N_BadTree bs_BadTree [.ref C_KindError, .type "ValueError", .type "Exception", .type "BaseException", .type "object"] true sn_BadTree sub_BadTree ab_BadTree col_BadTree dd_BadTree m0_BadTree m1_BadTree m2_BadTree m3_BadTree m5_BadTree "ValueError.__new__"))
    (sa_BadTree : PySem.W.findIn K (.ref C_BadTree) "__setattr__" = some (some (.builtin "object.__setattr__")))
    (ga_BadTree : PySem.W.findIn K (.ref C_BadTree) "__getattribute__" = some (some (.builtin "BaseException.__getattribute__")))
    (gg_BadTree : PySem.W.findIn K (.ref C_BadTree) "__getattr__" = some none)
    (eC_BadTree : PySem.W.subIn K (.ref C_BadTree) (.type "BaseException") = some true)
    (tC_BadTree : PySem.W.typeIn K (.ref C_BadTree) = some (.type "type"))
    (kC_BadTree : PySem.W.keepIn K (.ref C_BadTree) = true)
    (hC_BadTree : PySem.W.hasDictIn K C_BadTree = true)
    (iC_BadTree : PySem.W.isClsIn K C_BadTree = true)
    (sC_BadTree : PySem.W.subIn K (.ref C_BadTree) (.ref C_BadTree) = some true)
    (tI_BadTree : PySem.W.typeIn K (.ref f7) = some (.type "function"))
    (no_BadTree_given : PySem.W.findIn K (.ref C_BadTree) "given" = some none)
    {cd_BadPlace : ClassData}
    (cl_BadPlace : PySem.W.clsIn K C_BadPlace = some cd_BadPlace)
    (rf_BadPlace : cd_BadPlace.mro = .ref C_BadPlace :: [.ref C_KindError, .type "ValueError", .type "Exception", .type "BaseException", .type "object"])
    (ty_BadPlace : PySem.W.typeIn K (.ref C_BadPlace) = some (.type "type"))
    (eg_BadPlace : PySem.W.findIn K (.ref C_BadPlace) "__getattribute__" = some (some (.builtin "BaseException.__getattribute__")))
    (ek_BadPlace : PySem.W.findIn K (.ref C_BadPlace) "__getattr__" = some none)
    (es_BadPlace : PySem.W.subIn K (.ref C_BadPlace) (.type "BaseException") = some true)
    (ed_BadPlace : PySem.W.hasDictIn K C_BadPlace = true)
    (ea_BadPlace : PySem.W.findIn K (.ref C_BadPlace) "__class__" = some (some (.builtin "object.__class__")))
    (em_BadPlace : PySem.W.mroIn K C_BadPlace (.type "object") = some true)
    {nm_BadPlace q_BadPlace : Str} {N_BadPlace : Addr} {bs_BadPlace : List Value} {sn_BadPlace : List Str} {sub_BadPlace : List Value} {ab_BadPlace : Bool} {col_BadPlace : Option Bool} {dd_BadPlace : Option Addr} {m0_BadPlace m1_BadPlace m2_BadPlace m3_BadPlace m5_BadPlace : Option Value}
    (xL_BadPlace : K.lookup C_BadPlace = some (excClassObj nm_BadPlace q_BadPlace C_BadPlace N_BadPlace bs_BadPlace [.ref C_KindError, .type "ValueError", .type "Exception", .type "BaseException", .type "object"] true sn_BadPlace sub_BadPlace ab_BadPlace col_BadPlace dd_BadPlace m0_BadPlace m1_BadPlace m2_BadPlace m3_BadPlace m5_BadPlace "ValueError.__new__"))
    (sa_BadPlace : PySem.W.findIn K (.ref C_BadPlace) "__setattr__" = some (some (.builtin "object.__setattr__")))
    (ga_BadPlace : PySem.W.findIn K (.ref C_BadPlace) "__getattribute__" = some (some (.builtin "BaseException.__getattribute__")))
    (gg_BadPlace : PySem.W.findIn K (.ref C_BadPlace) "__getattr__" = some none)
    (eC_BadPlace : PySem.W.subIn K (.ref C_BadPlace) (.type "BaseException") = some true)
    (tC_BadPlace : PySem.W.typeIn K (.ref C_BadPlace) = some (.type "type"))
    (kC_BadPlace : PySem.W.keepIn K (.ref C_BadPlace) = true)
    (hC_BadPlace : PySem.W.hasDictIn K C_BadPlace = true)
    (iC_BadPlace : PySem.W.isClsIn K C_BadPlace = true)
    (sC_BadPlace : PySem.W.subIn K (.ref C_BadPlace) (.ref C_BadPlace) = some true)
    (tI_BadPlace : PySem.W.typeIn K (.ref f8) = some (.type "function"))
    (no_BadPlace_given : PySem.W.findIn K (.ref C_BadPlace) "given" = some none)
    {cd_BadKnot : ClassData}
    (cl_BadKnot : PySem.W.clsIn K C_BadKnot = some cd_BadKnot)
    (rf_BadKnot : cd_BadKnot.mro = .ref C_BadKnot :: [.ref C_KindError, .type "ValueError", .type "Exception", .type "BaseException", .type "object"])
    (ty_BadKnot : PySem.W.typeIn K (.ref C_BadKnot) = some (.type "type"))
    (eg_BadKnot : PySem.W.findIn K (.ref C_BadKnot) "__getattribute__" = some (some (.builtin "BaseException.__getattribute__")))
    (ek_BadKnot : PySem.W.findIn K (.ref C_BadKnot) "__getattr__" = some none)
    (es_BadKnot : PySem.W.subIn K (.ref C_BadKnot) (.type "BaseException") = some true)
    (ed_BadKnot : PySem.W.hasDictIn K C_BadKnot = true)
    (ea_BadKnot : PySem.W.findIn K (.ref C_BadKnot) "__class__" = some (some (.builtin "object.__class__")))
    (em_BadKnot : PySem.W.mroIn K C_BadKnot (.type "object") = some true)
    {nm_BadKnot q_BadKnot : Str} {N_BadKnot : Addr} {bs_BadKnot : List Value} {sn_BadKnot : List Str} {sub_BadKnot : List Value} {ab_BadKnot : Bool} {col_BadKnot : Option Bool} {dd_BadKnot : Option Addr} {m0_BadKnot m1_BadKnot m2_BadKnot m3_BadKnot m5_BadKnot : Option Value}
    (xL_BadKnot : K.lookup C_BadKnot = some (excClassObj nm_BadKnot q_BadKnot C_BadKnot N_BadKnot bs_BadKnot [.ref C_KindError, .type "ValueError", .type "Exception", .type "BaseException", .type "object"] true sn_BadKnot sub_BadKnot ab_BadKnot col_BadKnot dd_BadKnot m0_BadKnot m1_BadKnot m2_BadKnot m3_BadKnot m5_BadKnot "ValueError.__new__"))
    (sa_BadKnot : PySem.W.findIn K (.ref C_BadKnot) "__setattr__" = some (some (.builtin "object.__setattr__")))
    (ga_BadKnot : PySem.W.findIn K (.ref C_BadKnot) "__getattribute__" = some (some (.builtin "BaseException.__getattribute__")))
    (gg_BadKnot : PySem.W.findIn K (.ref C_BadKnot) "__getattr__" = some none)
    (eC_BadKnot : PySem.W.subIn K (.ref C_BadKnot) (.type "BaseException") = some true)
    (tC_BadKnot : PySem.W.typeIn K (.ref C_BadKnot) = some (.type "type"))
    (kC_BadKnot : PySem.W.keepIn K (.ref C_BadKnot) = true)
    (hC_BadKnot : PySem.W.hasDictIn K C_BadKnot = true)
    (iC_BadKnot : PySem.W.isClsIn K C_BadKnot = true)
    (sC_BadKnot : PySem.W.subIn K (.ref C_BadKnot) (.ref C_BadKnot) = some true)
    (tI_BadKnot : PySem.W.typeIn K (.ref f9) = some (.type "function"))
    (no_BadKnot_given : PySem.W.findIn K (.ref C_BadKnot) "given" = some none)
    (x_NoKind : PySem.W.excIn K C_NoKind [.type "ValueError", .type "Exception", .type "BaseException", .type "object"] "ValueError.__new__" = true)
    (k_NoKind : PySem.W.keepIn K (.ref C_NoKind) = true)
    (b_NoKind : PySem.W.subIn K (.ref C_NoKind) (.type "BaseException") = some true)
    (t_NoKind : PySem.W.typeIn K (.ref C_NoKind) = some (.type "type"))
    (i_NoKind : PySem.W.isClsIn K C_NoKind = true)
    (sC_NoKind : PySem.W.subIn K (.ref C_NoKind) (.ref C_NoKind) = some true)
    {cd_NoKind : ClassData}
    (cl_NoKind : PySem.W.clsIn K C_NoKind = some cd_NoKind)
    (rf_NoKind : cd_NoKind.mro = .ref C_NoKind :: [.ref C_KindError, .type "ValueError", .type "Exception", .type "BaseException", .type "object"])
    (ty_NoKind : PySem.W.typeIn K (.ref C_NoKind) = some (.type "type"))
    (eg_NoKind : PySem.W.findIn K (.ref C_NoKind) "__getattribute__" = some (some (.builtin "BaseException.__getattribute__")))
    (ek_NoKind : PySem.W.findIn K (.ref C_NoKind) "__getattr__" = some none)
    (es_NoKind : PySem.W.subIn K (.ref C_NoKind) (.type "BaseException") = some true)
    (ed_NoKind : PySem.W.hasDictIn K C_NoKind = true)
    (ea_NoKind : PySem.W.findIn K (.ref C_NoKind) "__class__" = some (some (.builtin "object.__class__")))
    (em_NoKind : PySem.W.mroIn K C_NoKind (.type "object") = some true)
    {cd_BadKind : ClassData}
    (cl_BadKind : PySem.W.clsIn K C_BadKind = some cd_BadKind)
    (rf_BadKind : cd_BadKind.mro = .ref C_BadKind :: [.ref C_KindError, .type "ValueError", .type "Exception", .type "BaseException", .type "object"])
    (ty_BadKind : PySem.W.typeIn K (.ref C_BadKind) = some (.type "type"))
    (eg_BadKind : PySem.W.findIn K (.ref C_BadKind) "__getattribute__" = some (some (.builtin "BaseException.__getattribute__")))
    (ek_BadKind : PySem.W.findIn K (.ref C_BadKind) "__getattr__" = some none)
    (es_BadKind : PySem.W.subIn K (.ref C_BadKind) (.type "BaseException") = some true)
    (ed_BadKind : PySem.W.hasDictIn K C_BadKind = true)
    (ea_BadKind : PySem.W.findIn K (.ref C_BadKind) "__class__" = some (some (.builtin "object.__class__")))
    (em_BadKind : PySem.W.mroIn K C_BadKind (.type "object") = some true)
    {nm_BadKind q_BadKind : Str} {N_BadKind : Addr} {bs_BadKind : List Value} {sn_BadKind : List Str} {sub_BadKind : List Value} {ab_BadKind : Bool} {col_BadKind : Option Bool} {dd_BadKind : Option Addr} {m0_BadKind m1_BadKind m2_BadKind m3_BadKind m5_BadKind : Option Value}
    (xL_BadKind : K.lookup C_BadKind = some (excClassObj nm_BadKind q_BadKind C_BadKind N_BadKind bs_BadKind [.ref C_KindError, .type "ValueError", .type "Exception", .type "BaseException", .type "object"] true sn_BadKind sub_BadKind ab_BadKind col_BadKind dd_BadKind m0_BadKind m1_BadKind m2_BadKind m3_BadKind m5_BadKind "ValueError.__new__"))
    (sa_BadKind : PySem.W.findIn K (.ref C_BadKind) "__setattr__" = some (some (.builtin "object.__setattr__")))
    (ga_BadKind : PySem.W.findIn K (.ref C_BadKind) "__getattribute__" = some (some (.builtin "BaseException.__getattribute__")))
    (gg_BadKind : PySem.W.findIn K (.ref C_BadKind) "__getattr__" = some none)
    (eC_BadKind : PySem.W.subIn K (.ref C_BadKind) (.type "BaseException") = some true)
    (tC_BadKind : PySem.W.typeIn K (.ref C_BadKind) = some (.type "type"))
    (kC_BadKind : PySem.W.keepIn K (.ref C_BadKind) = true)
    (hC_BadKind : PySem.W.hasDictIn K C_BadKind = true)
    (iC_BadKind : PySem.W.isClsIn K C_BadKind = true)
    (sC_BadKind : PySem.W.subIn K (.ref C_BadKind) (.ref C_BadKind) = some true)
    (tI_BadKind : PySem.W.typeIn K (.ref f10) = some (.type "function"))
    (no_BadKind_given : PySem.W.findIn K (.ref C_BadKind) "given" = some none)
    {cd_BadForm : ClassData}
    (cl_BadForm : PySem.W.clsIn K C_BadForm = some cd_BadForm)
    (rf_BadForm : cd_BadForm.mro = .ref C_BadForm :: [.ref C_KindError, .type "ValueError", .type "Exception", .type "BaseException", .type "object"])
    (ty_BadForm : PySem.W.typeIn K (.ref C_BadForm) = some (.type "type"))
    (eg_BadForm : PySem.W.findIn K (.ref C_BadForm) "__getattribute__" = some (some (.builtin "BaseException.__getattribute__")))
    (ek_BadForm : PySem.W.findIn K (.ref C_BadForm) "__getattr__" = some none)
    (es_BadForm : PySem.W.subIn K (.ref C_BadForm) (.type "BaseException") = some true)
    (ed_BadForm : PySem.W.hasDictIn K C_BadForm = true)
    (ea_BadForm : PySem.W.findIn K (.ref C_BadForm) "__class__" = some (some (.builtin "object.__class__")))
    (em_BadForm : PySem.W.mroIn K C_BadForm (.type "object") = some true)
    {nm_BadForm q_BadForm : Str} {N_BadForm : Addr} {bs_BadForm : List Value} {sn_BadForm : List Str} {sub_BadForm : List Value} {ab_BadForm : Bool} {col_BadForm : Option Bool} {dd_BadForm : Option Addr} {m0_BadForm m1_BadForm m2_BadForm m3_BadForm m5_BadForm : Option Value}
    (xL_BadForm : K.lookup C_BadForm = some (excClassObj nm_BadForm q_BadForm C_BadForm N_BadForm bs_BadForm [.ref C_KindError, .type "ValueError", .type "Exception", .type "BaseException", .type "object"] true sn_BadForm sub_BadForm ab_BadForm col_BadForm dd_BadForm m0_BadForm m1_BadForm m2_BadForm m3_BadForm m5_BadForm "ValueError.__new__"))
    (sa_BadForm : PySem.W.findIn K (.ref C_BadForm) "__setattr__" = some (some (.builtin "object.__setattr__")))
    (ga_BadForm : PySem.W.findIn K (.ref C_BadForm) "__getattribute__" = some (some (.builtin "BaseException.__getattribute__")))
    (gg_BadForm : PySem.W.findIn K (.ref C_BadForm) "__getattr__" = some none)
    (eC_BadForm : PySem.W.subIn K (.ref C_BadForm) (.type "BaseException") = some true)
    (tC_BadForm : PySem.W.typeIn K (.ref C_BadForm) = some (.type "type"))
    (kC_BadForm : PySem.W.keepIn K (.ref C_BadForm) = true)
    (hC_BadForm : PySem.W.hasDictIn K C_BadForm = true)
    (iC_BadForm : PySem.W.isClsIn K C_BadForm = true)
    (sC_BadForm : PySem.W.subIn K (.ref C_BadForm) (.ref C_BadForm) = some true)
    (tI_BadForm : PySem.W.typeIn K (.ref f11) = some (.type "function"))
    (no_BadForm_number : PySem.W.findIn K (.ref C_BadForm) "number" = some none)
    {cd_BadDeeds : ClassData}
    (cl_BadDeeds : PySem.W.clsIn K C_BadDeeds = some cd_BadDeeds)
    (rf_BadDeeds : cd_BadDeeds.mro = .ref C_BadDeeds :: [.ref C_KindError, .type "ValueError", .type "Exception", .type "BaseException", .type "object"])
    (ty_BadDeeds : PySem.W.typeIn K (.ref C_BadDeeds) = some (.type "type"))
    (eg_BadDeeds : PySem.W.findIn K (.ref C_BadDeeds) "__getattribute__" = some (some (.builtin "BaseException.__getattribute__")))
    (ek_BadDeeds : PySem.W.findIn K (.ref C_BadDeeds) "__getattr__" = some none)
    (es_BadDeeds : PySem.W.subIn K (.ref C_BadDeeds) (.type "BaseException") = some true)
    (ed_BadDeeds : PySem.W.hasDictIn K C_BadDeeds = true)
    (ea_BadDeeds : PySem.W.findIn K (.ref C_BadDeeds) "__class__" = some (some (.builtin "object.__class__")))
    (em_BadDeeds : PySem.W.mroIn K C_BadDeeds (.type "object") = some true)
    {nm_BadDeeds q_BadDeeds : Str} {N_BadDeeds : Addr} {bs_BadDeeds : List Value} {sn_BadDeeds : List Str} {sub_BadDeeds : List Value} {ab_BadDeeds : Bool} {col_BadDeeds : Option Bool} {dd_BadDeeds : Option Addr} {m0_BadDeeds m1_BadDeeds m2_BadDeeds m3_BadDeeds m5_BadDeeds : Option Value}
    (xL_BadDeeds : K.lookup C_BadDeeds = some (excClassObj nm_BadDeeds q_BadDeeds C_BadDeeds N_BadDeeds bs_BadDeeds [.ref C_KindError, .type "ValueError", .type "Exception", .type "BaseException", .type "object"] true sn_BadDeeds sub_BadDeeds ab_BadDeeds col_BadDeeds dd_BadDeeds m0_BadDeeds m1_BadDeeds m2_BadDeeds m3_BadDeeds m5_BadDeeds "ValueError.__new__"))
    (sa_BadDeeds : PySem.W.findIn K (.ref C_BadDeeds) "__setattr__" = some (some (.builtin "object.__setattr__")))
    (ga_BadDeeds : PySem.W.findIn K (.ref C_BadDeeds) "__getattribute__" = some (some (.builtin "BaseException.__getattribute__")))
    (gg_BadDeeds : PySem.W.findIn K (.ref C_BadDeeds) "__getattr__" = some none)
    (eC_BadDeeds : PySem.W.subIn K (.ref C_BadDeeds) (.type "BaseException") = some true)
    (tC_BadDeeds : PySem.W.typeIn K (.ref C_BadDeeds) = some (.type "type"))
    (kC_BadDeeds : PySem.W.keepIn K (.ref C_BadDeeds) = true)
    (hC_BadDeeds : PySem.W.hasDictIn K C_BadDeeds = true)
    (iC_BadDeeds : PySem.W.isClsIn K C_BadDeeds = true)
    (sC_BadDeeds : PySem.W.subIn K (.ref C_BadDeeds) (.ref C_BadDeeds) = some true)
    (tI_BadDeeds : PySem.W.typeIn K (.ref f12) = some (.type "function"))
    (no_BadDeeds_given : PySem.W.findIn K (.ref C_BadDeeds) "given" = some none)
    {cd_BadWeight : ClassData}
    (cl_BadWeight : PySem.W.clsIn K C_BadWeight = some cd_BadWeight)
    (rf_BadWeight : cd_BadWeight.mro = .ref C_BadWeight :: [.ref C_KindError, .type "ValueError", .type "Exception", .type "BaseException", .type "object"])
    (ty_BadWeight : PySem.W.typeIn K (.ref C_BadWeight) = some (.type "type"))
    (eg_BadWeight : PySem.W.findIn K (.ref C_BadWeight) "__getattribute__" = some (some (.builtin "BaseException.__getattribute__")))
    (ek_BadWeight : PySem.W.findIn K (.ref C_BadWeight) "__getattr__" = some none)
    (es_BadWeight : PySem.W.subIn K (.ref C_BadWeight) (.type "BaseException") = some true)
    (ed_BadWeight : PySem.W.hasDictIn K C_BadWeight = true)
    (ea_BadWeight : PySem.W.findIn K (.ref C_BadWeight) "__class__" = some (some (.builtin "object.__class__")))
    (em_BadWeight : PySem.W.mroIn K C_BadWeight (.type "object") = some true)
    {nm_BadWeight q_BadWeight : Str} {N_BadWeight : Addr} {bs_BadWeight : List Value} {sn_BadWeight : List Str} {sub_BadWeight : List Value} {ab_BadWeight : Bool} {col_BadWeight : Option Bool} {dd_BadWeight : Option Addr} {m0_BadWeight m1_BadWeight m2_BadWeight m3_BadWeight m5_BadWeight : Option Value}
    (xL_BadWeight : K.lookup C_BadWeight = some (excClassObj nm_BadWeight q_BadWeight C_BadWeight N_BadWeight bs_BadWeight [.ref C_KindError, .type "ValueError", .type "Exception", .type "BaseException", .type "object"] true sn_BadWeight sub_BadWeight ab_BadWeight col_BadWeight dd_BadWeight m0_BadWeight m1_BadWeight m2_BadWeight m3_BadWeight m5_BadWeight "ValueError.__new__"))
    (sa_BadWeight : PySem.W.findIn K (.ref C_BadWeight) "__setattr__" = some (some (.builtin "object.__setattr__")))
    (ga_BadWeight : PySem.W.findIn K (.ref C_BadWeight) "__getattribute__" = some (some (.builtin "BaseException.__getattribute__")))
    (gg_BadWeight : PySem.W.findIn K (.ref C_BadWeight) "__getattr__" = some none)
    (eC_BadWeight : PySem.W.subIn K (.ref C_BadWeight) (.type "BaseException") = some true)
    (tC_BadWeight : PySem.W.typeIn K (.ref C_BadWeight) = some (.type "type"))
    (kC_BadWeight : PySem.W.keepIn K (.ref C_BadWeight) = true)
    (hC_BadWeight : PySem.W.hasDictIn K C_BadWeight = true)
    (iC_BadWeight : PySem.W.isClsIn K C_BadWeight = true)
    (sC_BadWeight : PySem.W.subIn K (.ref C_BadWeight) (.ref C_BadWeight) = some true)
    (tI_BadWeight : PySem.W.typeIn K (.ref f13) = some (.type "function"))
    (no_BadWeight_given : PySem.W.findIn K (.ref C_BadWeight) "given" = some none)
    {cd_BadUnits : ClassData}
    (cl_BadUnits : PySem.W.clsIn K C_BadUnits = some cd_BadUnits)
    (rf_BadUnits : cd_BadUnits.mro = .ref C_BadUnits :: [.ref C_KindError, .type "ValueError", .type "Exception", .type "BaseException", .type "object"])
    (ty_BadUnits : PySem.W.typeIn K (.ref C_BadUnits) = some (.type "type"))
    (eg_BadUnits : PySem.W.findIn K (.ref C_BadUnits) "__getattribute__" = some (some (.builtin "BaseException.__getattribute__")))
    (ek_BadUnits : PySem.W.findIn K (.ref C_BadUnits) "__getattr__" = some none)
    (es_BadUnits : PySem.W.subIn K (.ref C_BadUnits) (.type "BaseException") = some true)
    (ed_BadUnits : PySem.W.hasDictIn K C_BadUnits = true)
    (ea_BadUnits : PySem.W.findIn K (.ref C_BadUnits) "__class__" = some (some (.builtin "object.__class__")))
    (em_BadUnits : PySem.W.mroIn K C_BadUnits (.type "object") = some true)
    {nm_BadUnits q_BadUnits : Str} {N_BadUnits : Addr} {bs_BadUnits : List Value} {sn_BadUnits : List Str} {sub_BadUnits : List Value} {ab_BadUnits : Bool} {col_BadUnits : Option Bool} {dd_BadUnits : Option Addr} {m0_BadUnits m1_BadUnits m2_BadUnits m3_BadUnits m5_BadUnits : Option Value}
    (xL_BadUnits : K.lookup C_BadUnits = some (excClassObj nm_BadUnits q_BadUnits C_BadUnits N_BadUnits bs_BadUnits [.ref C_KindError, .type "ValueError", .type "Exception", .type "BaseException", .type "object"] true sn_BadUnits sub_BadUnits ab_BadUnits col_BadUnits dd_BadUnits m0_BadUnits m1_BadUnits m2_BadUnits m3_BadUnits m5_BadUnits "ValueError.__new__"))
    (sa_BadUnits : PySem.W.findIn K (.ref C_BadUnits) "__setattr__" = some (some (.builtin "object.__setattr__")))
    (ga_BadUnits : PySem.W.findIn K (.ref C_BadUnits) "__getattribute__" = some (some (.builtin "BaseException.__getattribute__")))
    (gg_BadUnits : PySem.W.findIn K (.ref C_BadUnits) "__getattr__" = some none)
    (eC_BadUnits : PySem.W.subIn K (.ref C_BadUnits) (.type "BaseException") = some true)
    (tC_BadUnits : PySem.W.typeIn K (.ref C_BadUnits) = some (.type "type"))
    (kC_BadUnits : PySem.W.keepIn K (.ref C_BadUnits) = true)
    (hC_BadUnits : PySem.W.hasDictIn K C_BadUnits = true)
    (iC_BadUnits : PySem.W.isClsIn K C_BadUnits = true)
    (sC_BadUnits : PySem.W.subIn K (.ref C_BadUnits) (.ref C_BadUnits) = some true)
    (tI_BadUnits : PySem.W.typeIn K (.ref f14) = some (.type "function"))
    (no_BadUnits_given : PySem.W.findIn K (.ref C_BadUnits) "given" = some none)
    {cd_BadBudget : ClassData}
    (cl_BadBudget : PySem.W.clsIn K C_BadBudget = some cd_BadBudget)
    (rf_BadBudget : cd_BadBudget.mro = .ref C_BadBudget :: [.ref C_KindError, .type "ValueError", .type "Exception", .type "BaseException", .type "object"])
    (ty_BadBudget : PySem.W.typeIn K (.ref C_BadBudget) = some (.type "type"))
    (eg_BadBudget : PySem.W.findIn K (.ref C_BadBudget) "__getattribute__" = some (some (.builtin "BaseException.__getattribute__")))
    (ek_BadBudget : PySem.W.findIn K (.ref C_BadBudget) "__getattr__" = some none)
    (es_BadBudget : PySem.W.subIn K (.ref C_BadBudget) (.type "BaseException") = some true)
    (ed_BadBudget : PySem.W.hasDictIn K C_BadBudget = true)
    (ea_BadBudget : PySem.W.findIn K (.ref C_BadBudget) "__class__" = some (some (.builtin "object.__class__")))
    (em_BadBudget : PySem.W.mroIn K C_BadBudget (.type "object") = some true)
    {nm_BadBudget q_BadBudget : Str} {N_BadBudget : Addr} {bs_BadBudget : List Value} {sn_BadBudget : List Str} {sub_BadBudget : List Value} {ab_BadBudget : Bool} {col_BadBudget : Option Bool} {dd_BadBudget : Option Addr} {m0_BadBudget m1_BadBudget m2_BadBudget m3_BadBudget m5_BadBudget : Option Value}
    (xL_BadBudget : K.lookup C_BadBudget = some (excClassObj nm_BadBudget q_BadBudget C_BadBudget N_BadBudget bs_BadBudget [.ref C_KindError, .type "ValueError", .type "Exception", .type "BaseException", .type "object"] true sn_BadBudget sub_BadBudget ab_BadBudget col_BadBudget dd_BadBudget m0_BadBudget m1_BadBudget m2_BadBudget m3_BadBudget m5_BadBudget "ValueError.__new__"))
    (sa_BadBudget : PySem.W.findIn K (.ref C_BadBudget) "__setattr__" = some (some (.builtin "object.__setattr__")))
    (ga_BadBudget : PySem.W.findIn K (.ref C_BadBudget) "__getattribute__" = some (some (.builtin "BaseException.__getattribute__")))
    (gg_BadBudget : PySem.W.findIn K (.ref C_BadBudget) "__getattr__" = some none)
    (eC_BadBudget : PySem.W.subIn K (.ref C_BadBudget) (.type "BaseException") = some true)
    (tC_BadBudget : PySem.W.typeIn K (.ref C_BadBudget) = some (.type "type"))
    (kC_BadBudget : PySem.W.keepIn K (.ref C_BadBudget) = true)
    (hC_BadBudget : PySem.W.hasDictIn K C_BadBudget = true)
    (iC_BadBudget : PySem.W.isClsIn K C_BadBudget = true)
    (sC_BadBudget : PySem.W.subIn K (.ref C_BadBudget) (.ref C_BadBudget) = some true)
    (tI_BadBudget : PySem.W.typeIn K (.ref f15) = some (.type "function"))
    (no_BadBudget_given : PySem.W.findIn K (.ref C_BadBudget) "given" = some none)
    {cd_BadStep : ClassData}
    (cl_BadStep : PySem.W.clsIn K C_BadStep = some cd_BadStep)
    (rf_BadStep : cd_BadStep.mro = .ref C_BadStep :: [.ref C_KindError, .type "ValueError", .type "Exception", .type "BaseException", .type "object"])
    (ty_BadStep : PySem.W.typeIn K (.ref C_BadStep) = some (.type "type"))
    (eg_BadStep : PySem.W.findIn K (.ref C_BadStep) "__getattribute__" = some (some (.builtin "BaseException.__getattribute__")))
    (ek_BadStep : PySem.W.findIn K (.ref C_BadStep) "__getattr__" = some none)
    (es_BadStep : PySem.W.subIn K (.ref C_BadStep) (.type "BaseException") = some true)
    (ed_BadStep : PySem.W.hasDictIn K C_BadStep = true)
    (ea_BadStep : PySem.W.findIn K (.ref C_BadStep) "__class__" = some (some (.builtin "object.__class__")))
    (em_BadStep : PySem.W.mroIn K C_BadStep (.type "object") = some true)
    {nm_BadStep q_BadStep : Str} {N_BadStep : Addr} {bs_BadStep : List Value} {sn_BadStep : List Str} {sub_BadStep : List Value} {ab_BadStep : Bool} {col_BadStep : Option Bool} {dd_BadStep : Option Addr} {m0_BadStep m1_BadStep m2_BadStep m3_BadStep m5_BadStep : Option Value}
    (xL_BadStep : K.lookup C_BadStep = some (excClassObj nm_BadStep q_BadStep C_BadStep N_BadStep bs_BadStep [.ref C_KindError, .type "ValueError", .type "Exception", .type "BaseException", .type "object"] true sn_BadStep sub_BadStep ab_BadStep col_BadStep dd_BadStep m0_BadStep m1_BadStep m2_BadStep m3_BadStep m5_BadStep "ValueError.__new__"))
    (sa_BadStep : PySem.W.findIn K (.ref C_BadStep) "__setattr__" = some (some (.builtin "object.__setattr__")))
    (ga_BadStep : PySem.W.findIn K (.ref C_BadStep) "__getattribute__" = some (some (.builtin "BaseException.__getattribute__")))
    (gg_BadStep : PySem.W.findIn K (.ref C_BadStep) "__getattr__" = some none)
    (eC_BadStep : PySem.W.subIn K (.ref C_BadStep) (.type "BaseException") = some true)
    (tC_BadStep : PySem.W.typeIn K (.ref C_BadStep) = some (.type "type"))
    (kC_BadStep : PySem.W.keepIn K (.ref C_BadStep) = true)
    (hC_BadStep : PySem.W.hasDictIn K C_BadStep = true)
    (iC_BadStep : PySem.W.isClsIn K C_BadStep = true)
    (sC_BadStep : PySem.W.subIn K (.ref C_BadStep) (.ref C_BadStep) = some true)
    (tI_BadStep : PySem.W.typeIn K (.ref f16) = some (.type "function"))
    (no_BadStep_given : PySem.W.findIn K (.ref C_BadStep) "given" = some none)
    {cd_TooMany : ClassData}
    (cl_TooMany : PySem.W.clsIn K C_TooMany = some cd_TooMany)
    (rf_TooMany : cd_TooMany.mro = .ref C_TooMany :: [.ref C_KindError, .type "ValueError", .type "Exception", .type "BaseException", .type "object"])
    (ty_TooMany : PySem.W.typeIn K (.ref C_TooMany) = some (.type "type"))
    (eg_TooMany : PySem.W.findIn K (.ref C_TooMany) "__getattribute__" = some (some (.builtin "BaseException.__getattribute__")))
    (ek_TooMany : PySem.W.findIn K (.ref C_TooMany) "__getattr__" = some none)
    (es_TooMany : PySem.W.subIn K (.ref C_TooMany) (.type "BaseException") = some true)
    (ed_TooMany : PySem.W.hasDictIn K C_TooMany = true)
    (ea_TooMany : PySem.W.findIn K (.ref C_TooMany) "__class__" = some (some (.builtin "object.__class__")))
    (em_TooMany : PySem.W.mroIn K C_TooMany (.type "object") = some true)
    {nm_TooMany q_TooMany : Str} {N_TooMany : Addr} {bs_TooMany : List Value} {sn_TooMany : List Str} {sub_TooMany : List Value} {ab_TooMany : Bool} {col_TooMany : Option Bool} {dd_TooMany : Option Addr} {m0_TooMany m1_TooMany m2_TooMany m3_TooMany m5_TooMany : Option Value}
    (xL_TooMany : K.lookup C_TooMany = some (excClassObj nm_TooMany q_TooMany C_TooMany N_TooMany bs_TooMany [.ref C_KindError, .type "ValueError", .type "Exception", .type "BaseException", .type "object"] true sn_TooMany sub_TooMany ab_TooMany col_TooMany dd_TooMany m0_TooMany m1_TooMany m2_TooMany m3_TooMany m5_TooMany "ValueError.__new__"))
    (sa_TooMany : PySem.W.findIn K (.ref C_TooMany) "__setattr__" = some (some (.builtin "object.__setattr__")))
    (ga_TooMany : PySem.W.findIn K (.ref C_TooMany) "__getattribute__" = some (some (.builtin "BaseException.__getattribute__")))
    (gg_TooMany : PySem.W.findIn K (.ref C_TooMany) "__getattr__" = some none)
    (eC_TooMany : PySem.W.subIn K (.ref C_TooMany) (.type "BaseException") = some true)
    (tC_TooMany : PySem.W.typeIn K (.ref C_TooMany) = some (.type "type"))
    (kC_TooMany : PySem.W.keepIn K (.ref C_TooMany) = true)
    (hC_TooMany : PySem.W.hasDictIn K C_TooMany = true)
    (iC_TooMany : PySem.W.isClsIn K C_TooMany = true)
    (sC_TooMany : PySem.W.subIn K (.ref C_TooMany) (.ref C_TooMany) = some true)
    (tI_TooMany : PySem.W.typeIn K (.ref f17) = some (.type "function"))
    (no_TooMany_count : PySem.W.findIn K (.ref C_TooMany) "count" = some none)
    {cd_NoSuch : ClassData}
    (cl_NoSuch : PySem.W.clsIn K C_NoSuch = some cd_NoSuch)
    (rf_NoSuch : cd_NoSuch.mro = .ref C_NoSuch :: [.ref C_KindError, .type "ValueError", .type "Exception", .type "BaseException", .type "object"])
    (ty_NoSuch : PySem.W.typeIn K (.ref C_NoSuch) = some (.type "type"))
    (eg_NoSuch : PySem.W.findIn K (.ref C_NoSuch) "__getattribute__" = some (some (.builtin "BaseException.__getattribute__")))
    (ek_NoSuch : PySem.W.findIn K (.ref C_NoSuch) "__getattr__" = some none)
    (es_NoSuch : PySem.W.subIn K (.ref C_NoSuch) (.type "BaseException") = some true)
    (ed_NoSuch : PySem.W.hasDictIn K C_NoSuch = true)
    (ea_NoSuch : PySem.W.findIn K (.ref C_NoSuch) "__class__" = some (some (.builtin "object.__class__")))
    (em_NoSuch : PySem.W.mroIn K C_NoSuch (.type "object") = some true)
    {nm_NoSuch q_NoSuch : Str} {N_NoSuch : Addr} {bs_NoSuch : List Value} {sn_NoSuch : List Str} {sub_NoSuch : List Value} {ab_NoSuch : Bool} {col_NoSuch : Option Bool} {dd_NoSuch : Option Addr} {m0_NoSuch m1_NoSuch m2_NoSuch m3_NoSuch m5_NoSuch : Option Value}
    (xL_NoSuch : K.lookup C_NoSuch = some (excClassObj nm_NoSuch q_NoSuch C_NoSuch N_NoSuch bs_NoSuch [.ref C_KindError, .type "ValueError", .type "Exception", .type "BaseException", .type "object"] true sn_NoSuch sub_NoSuch ab_NoSuch col_NoSuch dd_NoSuch m0_NoSuch m1_NoSuch m2_NoSuch m3_NoSuch m5_NoSuch "ValueError.__new__"))
    (sa_NoSuch : PySem.W.findIn K (.ref C_NoSuch) "__setattr__" = some (some (.builtin "object.__setattr__")))
    (ga_NoSuch : PySem.W.findIn K (.ref C_NoSuch) "__getattribute__" = some (some (.builtin "BaseException.__getattribute__")))
    (gg_NoSuch : PySem.W.findIn K (.ref C_NoSuch) "__getattr__" = some none)
    (eC_NoSuch : PySem.W.subIn K (.ref C_NoSuch) (.type "BaseException") = some true)
    (tC_NoSuch : PySem.W.typeIn K (.ref C_NoSuch) = some (.type "type"))
    (kC_NoSuch : PySem.W.keepIn K (.ref C_NoSuch) = true)
    (hC_NoSuch : PySem.W.hasDictIn K C_NoSuch = true)
    (iC_NoSuch : PySem.W.isClsIn K C_NoSuch = true)
    (sC_NoSuch : PySem.W.subIn K (.ref C_NoSuch) (.ref C_NoSuch) = some true)
    (tI_NoSuch : PySem.W.typeIn K (.ref f18) = some (.type "function"))
    (no_NoSuch_name : PySem.W.findIn K (.ref C_NoSuch) "name" = some none)
    (x_NothingToUndo : PySem.W.excIn K C_NothingToUndo [.type "ValueError", .type "Exception", .type "BaseException", .type "object"] "ValueError.__new__" = true)
    (k_NothingToUndo : PySem.W.keepIn K (.ref C_NothingToUndo) = true)
    (b_NothingToUndo : PySem.W.subIn K (.ref C_NothingToUndo) (.type "BaseException") = some true)
    (t_NothingToUndo : PySem.W.typeIn K (.ref C_NothingToUndo) = some (.type "type"))
    (i_NothingToUndo : PySem.W.isClsIn K C_NothingToUndo = true)
    (sC_NothingToUndo : PySem.W.subIn K (.ref C_NothingToUndo) (.ref C_NothingToUndo) = some true)
    {cd_NothingToUndo : ClassData}
    (cl_NothingToUndo : PySem.W.clsIn K C_NothingToUndo = some cd_NothingToUndo)
    (rf_NothingToUndo : cd_NothingToUndo.mro = .ref C_NothingToUndo :: [.ref C_KindError, .type "ValueError", .type "Exception", .type "BaseException", .type "object"])
    (ty_NothingToUndo : PySem.W.typeIn K (.ref C_NothingToUndo) = some (.type "type"))
    (eg_NothingToUndo : PySem.W.findIn K (.ref C_NothingToUndo) "__getattribute__" = some (some (.builtin "BaseException.__getattribute__")))
    (ek_NothingToUndo : PySem.W.findIn K (.ref C_NothingToUndo) "__getattr__" = some none)
    (es_NothingToUndo : PySem.W.subIn K (.ref C_NothingToUndo) (.type "BaseException") = some true)
    (ed_NothingToUndo : PySem.W.hasDictIn K C_NothingToUndo = true)
    (ea_NothingToUndo : PySem.W.findIn K (.ref C_NothingToUndo) "__class__" = some (some (.builtin "object.__class__")))
    (em_NothingToUndo : PySem.W.mroIn K C_NothingToUndo (.type "object") = some true)
    (x_NothingToRedo : PySem.W.excIn K C_NothingToRedo [.type "ValueError", .type "Exception", .type "BaseException", .type "object"] "ValueError.__new__" = true)
    (k_NothingToRedo : PySem.W.keepIn K (.ref C_NothingToRedo) = true)
    (b_NothingToRedo : PySem.W.subIn K (.ref C_NothingToRedo) (.type "BaseException") = some true)
    (t_NothingToRedo : PySem.W.typeIn K (.ref C_NothingToRedo) = some (.type "type"))
    (i_NothingToRedo : PySem.W.isClsIn K C_NothingToRedo = true)
    (sC_NothingToRedo : PySem.W.subIn K (.ref C_NothingToRedo) (.ref C_NothingToRedo) = some true)
    {cd_NothingToRedo : ClassData}
    (cl_NothingToRedo : PySem.W.clsIn K C_NothingToRedo = some cd_NothingToRedo)
    (rf_NothingToRedo : cd_NothingToRedo.mro = .ref C_NothingToRedo :: [.ref C_KindError, .type "ValueError", .type "Exception", .type "BaseException", .type "object"])
    (ty_NothingToRedo : PySem.W.typeIn K (.ref C_NothingToRedo) = some (.type "type"))
    (eg_NothingToRedo : PySem.W.findIn K (.ref C_NothingToRedo) "__getattribute__" = some (some (.builtin "BaseException.__getattribute__")))
    (ek_NothingToRedo : PySem.W.findIn K (.ref C_NothingToRedo) "__getattr__" = some none)
    (es_NothingToRedo : PySem.W.subIn K (.ref C_NothingToRedo) (.type "BaseException") = some true)
    (ed_NothingToRedo : PySem.W.hasDictIn K C_NothingToRedo = true)
    (ea_NothingToRedo : PySem.W.findIn K (.ref C_NothingToRedo) "__class__" = some (some (.builtin "object.__class__")))
    (em_NothingToRedo : PySem.W.mroIn K C_NothingToRedo (.type "object") = some true)
    (ecn : PySem.W.specialIn K (.builtin "object.__class__") "__get__" = some (some (.builtin "getset_descriptor.__get__")))
    (ect : PySem.W.takesIn K (.builtin "object.__class__") = some true)
    (ndp : List.Nodup [C_KindError, C_BadText, C_Twice, C_BadName, C_BadFilling, C_BadLine, C_Unknown, C_BadMacro, C_BadTree, C_BadPlace, C_BadKnot, C_BadKind, C_BadForm, C_BadDeeds, C_BadWeight, C_BadUnits, C_BadBudget, C_BadStep, C_TooMany, C_NoSuch, C_ByZero, C_NoKind, C_NothingToUndo, C_NothingToRedo])
    : ∃ fd : FuncData, (∀ (s : Shared) (v : Value), BindsTo s fd ⟨[v], []⟩ [("script", v)]) ∧ ∀ base : Heap, K.In base → base.Ns mainGlobals mg → FnG l.prog w K mg base 5 fa fd ["script"] (spLaw K) := by
  have e := hfa.symm.trans (PySem.W.mg_of X G a29)
  cases e
  have F0 := fun_mk (st := s_BadText_init) l0 e0 k0
  have b0 := F0.binds (ps := ["self", "at"]) fun _ _ _ _ _ _ us hl => match us, hl with | [_, _], _ => rfl
  have F1 := fun_mk (st := s_Twice_init) l1 e1 k1
  have b1 := F1.binds (ps := ["self", "name"]) fun _ _ _ _ _ _ us hl => match us, hl with | [_, _], _ => rfl
  have F2 := fun_mk (st := s_BadName_init) l2 e2 k2
  have b2 := F2.binds (ps := ["self", "name"]) fun _ _ _ _ _ _ us hl => match us, hl with | [_, _], _ => rfl
  have F3 := fun_mk (st := s_BadFilling_init) l3 e3 k3
  have b3 := F3.binds (ps := ["self", "name"]) fun _ _ _ _ _ _ us hl => match us, hl with | [_, _], _ => rfl
  have F4 := fun_mk (st := s_BadLine_init) l4 e4 k4
  have b4 := F4.binds (ps := ["self", "number"]) fun _ _ _ _ _ _ us hl => match us, hl with | [_, _], _ => rfl
  have F5 := fun_mk (st := s_Unknown_init) l5 e5 k5
  have b5 := F5.binds (ps := ["self", "name"]) fun _ _ _ _ _ _ us hl => match us, hl with | [_, _], _ => rfl
  have F6 := fun_mk (st := s_BadMacro_init) l6 e6 k6
  have b6 := F6.binds (ps := ["self", "name"]) fun _ _ _ _ _ _ us hl => match us, hl with | [_, _], _ => rfl
  have F7 := fun_mk (st := s_BadTree_init) l7 e7 k7
  have b7 := F7.binds (ps := ["self", "given"]) fun _ _ _ _ _ _ us hl => match us, hl with | [_, _], _ => rfl
  have F8 := fun_mk (st := s_BadPlace_init) l8 e8 k8
  have b8 := F8.binds (ps := ["self", "given"]) fun _ _ _ _ _ _ us hl => match us, hl with | [_, _], _ => rfl
  have F9 := fun_mk (st := s_BadKnot_init) l9 e9 k9
  have b9 := F9.binds (ps := ["self", "given"]) fun _ _ _ _ _ _ us hl => match us, hl with | [_, _], _ => rfl
  have F10 := fun_mk (st := s_BadKind_init) l10 e10 k10
  have b10 := F10.binds (ps := ["self", "given"]) fun _ _ _ _ _ _ us hl => match us, hl with | [_, _], _ => rfl
  have F11 := fun_mk (st := s_BadForm_init) l11 e11 k11
  have b11 := F11.binds (ps := ["self", "number"]) fun _ _ _ _ _ _ us hl => match us, hl with | [_, _], _ => rfl
  have F12 := fun_mk (st := s_BadDeeds_init) l12 e12 k12
  have b12 := F12.binds (ps := ["self", "given"]) fun _ _ _ _ _ _ us hl => match us, hl with | [_, _], _ => rfl
  have F13 := fun_mk (st := s_BadWeight_init) l13 e13 k13
  have b13 := F13.binds (ps := ["self", "given"]) fun _ _ _ _ _ _ us hl => match us, hl with | [_, _], _ => rfl
  have F14 := fun_mk (st := s_BadUnits_init) l14 e14 k14
  have b14 := F14.binds (ps := ["self", "given"]) fun _ _ _ _ _ _ us hl => match us, hl with | [_, _], _ => rfl
  have F15 := fun_mk (st := s_BadBudget_init) l15 e15 k15
  have b15 := F15.binds (ps := ["self", "given"]) fun _ _ _ _ _ _ us hl => match us, hl with | [_, _], _ => rfl
  have F16 := fun_mk (st := s_BadStep_init) l16 e16 k16
  have b16 := F16.binds (ps := ["self", "given"]) fun _ _ _ _ _ _ us hl => match us, hl with | [_, _], _ => rfl
  have F17 := fun_mk (st := s_TooMany_init) l17 e17 k17
  have b17 := F17.binds (ps := ["self", "count"]) fun _ _ _ _ _ _ us hl => match us, hl with | [_, _], _ => rfl
  have F18 := fun_mk (st := s_NoSuch_init) l18 e18 k18
  have b18 := F18.binds (ps := ["self", "name"]) fun _ _ _ _ _ _ us hl => match us, hl with | [_, _], _ => rfl
  have F19 := fun_mk (st := s_law_cell) l19 e19 k19
  have b19 := F19.binds (ps := ["script", "k"]) fun _ _ _ _ _ _ us hl => match us, hl with | [_, _], _ => rfl
  have F20 := fun_mk (st := s_law_box) l20 e20 k20
  have b20 := F20.binds (ps := ["cell"]) fun _ _ _ _ _ _ us hl => match us, hl with | [_], _ => rfl
  have F21 := fun_mk (st := s_law_take) l21 e21 k21
  have b21 := F21.binds (ps := ["box", "many"]) fun _ _ _ _ _ _ us hl => match us, hl with | [_, _], _ => rfl
  have F22 := fun_mk (st := s_law_mixed) l22 e22 k22
  have b22 := F22.binds (ps := ["box", "some"]) fun _ _ _ _ _ _ us hl => match us, hl with | [_, _], _ => rfl
  have F23 := fun_mk (st := s_law_value) l23 e23 k23
  have b23 := F23.binds (ps := ["box"]) fun _ _ _ _ _ _ us hl => match us, hl with | [_], _ => rfl
  have F24 := fun_mk (st := s_law_made) l24 e24 k24
  have b24 := F24.binds (ps := ["way", "value"]) fun _ _ _ _ _ _ us hl => match us, hl with | [_, _], _ => rfl
  have F25 := fun_mk (st := s_law_field) l25 e25 k25
  have b25 := F25.binds (ps := ["way", "e"]) fun _ _ _ _ _ _ us hl => match us, hl with | [_, _], _ => rfl
  have F26 := fun_mk (st := s_law_classes) l26 e26 k26
  have b26 := F26.binds (ps := ["e"]) fun _ _ _ _ _ _ us hl => match us, hl with | [_], _ => rfl
  have F27 := fun_mk (st := s_law_same) l27 e27 k27
  have b27 := F27.binds (ps := ["one", "other"]) fun _ _ _ _ _ _ us hl => match us, hl with | [_, _], _ => rfl
  have F28 := fun_mk (st := s_law_right) l28 e28 k28
  have b28 := F28.binds (ps := ["box", "way"]) fun _ _ _ _ _ _ us hl => match us, hl with | [_, _], _ => rfl
  have F29 := fun_mk (st := s_law) l29 e29 k29
  have b29 := F29.binds (ps := ["script"]) fun _ _ _ _ _ _ us hl => match us, hl with | [_], _ => rfl
  have T : Top K mg {
    a_BadText_init := f0, fd_BadText_init := (PySem.W.fnOf "__init__" "BadText.__init__" (defArgs s_BadText_init) (defBody s_BadText_init) (defScope s_BadText_init) .none kV0 dc0 pm0 an0 cd0 ct0),
    a_Twice_init := f1, fd_Twice_init := (PySem.W.fnOf "__init__" "Twice.__init__" (defArgs s_Twice_init) (defBody s_Twice_init) (defScope s_Twice_init) .none kV1 dc1 pm1 an1 cd1 ct1),
    a_BadName_init := f2, fd_BadName_init := (PySem.W.fnOf "__init__" "BadName.__init__" (defArgs s_BadName_init) (defBody s_BadName_init) (defScope s_BadName_init) .none kV2 dc2 pm2 an2 cd2 ct2),
    a_BadFilling_init := f3, fd_BadFilling_init := (PySem.W.fnOf "__init__" "BadFilling.__init__" (defArgs s_BadFilling_init) (defBody s_BadFilling_init) (defScope s_BadFilling_init) .none kV3 dc3 pm3 an3 cd3 ct3),
    a_BadLine_init := f4, fd_BadLine_init := (PySem.W.fnOf "__init__" "BadLine.__init__" (defArgs s_BadLine_init) (defBody s_BadLine_init) (defScope s_BadLine_init) .none kV4 dc4 pm4 an4 cd4 ct4),
    a_Unknown_init := f5, fd_Unknown_init := (PySem.W.fnOf "__init__" "Unknown.__init__" (defArgs s_Unknown_init) (defBody s_Unknown_init) (defScope s_Unknown_init) .none kV5 dc5 pm5 an5 cd5 ct5),
    a_BadMacro_init := f6, fd_BadMacro_init := (PySem.W.fnOf "__init__" "BadMacro.__init__" (defArgs s_BadMacro_init) (defBody s_BadMacro_init) (defScope s_BadMacro_init) .none kV6 dc6 pm6 an6 cd6 ct6),
    a_BadTree_init := f7, fd_BadTree_init := (PySem.W.fnOf "__init__" "BadTree.__init__" (defArgs s_BadTree_init) (defBody s_BadTree_init) (defScope s_BadTree_init) .none kV7 dc7 pm7 an7 cd7 ct7),
    a_BadPlace_init := f8, fd_BadPlace_init := (PySem.W.fnOf "__init__" "BadPlace.__init__" (defArgs s_BadPlace_init) (defBody s_BadPlace_init) (defScope s_BadPlace_init) .none kV8 dc8 pm8 an8 cd8 ct8),
    a_BadKnot_init := f9, fd_BadKnot_init := (PySem.W.fnOf "__init__" "BadKnot.__init__" (defArgs s_BadKnot_init) (defBody s_BadKnot_init) (defScope s_BadKnot_init) .none kV9 dc9 pm9 an9 cd9 ct9),
    a_BadKind_init := f10, fd_BadKind_init := (PySem.W.fnOf "__init__" "BadKind.__init__" (defArgs s_BadKind_init) (defBody s_BadKind_init) (defScope s_BadKind_init) .none kV10 dc10 pm10 an10 cd10 ct10),
    a_BadForm_init := f11, fd_BadForm_init := (PySem.W.fnOf "__init__" "BadForm.__init__" (defArgs s_BadForm_init) (defBody s_BadForm_init) (defScope s_BadForm_init) .none kV11 dc11 pm11 an11 cd11 ct11),
    a_BadDeeds_init := f12, fd_BadDeeds_init := (PySem.W.fnOf "__init__" "BadDeeds.__init__" (defArgs s_BadDeeds_init) (defBody s_BadDeeds_init) (defScope s_BadDeeds_init) .none kV12 dc12 pm12 an12 cd12 ct12),
    a_BadWeight_init := f13, fd_BadWeight_init := (PySem.W.fnOf "__init__" "BadWeight.__init__" (defArgs s_BadWeight_init) (defBody s_BadWeight_init) (defScope s_BadWeight_init) .none kV13 dc13 pm13 an13 cd13 ct13),
    a_BadUnits_init := f14, fd_BadUnits_init := (PySem.W.fnOf "__init__" "BadUnits.__init__" (defArgs s_BadUnits_init) (defBody s_BadUnits_init) (defScope s_BadUnits_init) .none kV14 dc14 pm14 an14 cd14 ct14),
    a_BadBudget_init := f15, fd_BadBudget_init := (PySem.W.fnOf "__init__" "BadBudget.__init__" (defArgs s_BadBudget_init) (defBody s_BadBudget_init) (defScope s_BadBudget_init) .none kV15 dc15 pm15 an15 cd15 ct15),
    a_BadStep_init := f16, fd_BadStep_init := (PySem.W.fnOf "__init__" "BadStep.__init__" (defArgs s_BadStep_init) (defBody s_BadStep_init) (defScope s_BadStep_init) .none kV16 dc16 pm16 an16 cd16 ct16),
    a_TooMany_init := f17, fd_TooMany_init := (PySem.W.fnOf "__init__" "TooMany.__init__" (defArgs s_TooMany_init) (defBody s_TooMany_init) (defScope s_TooMany_init) .none kV17 dc17 pm17 an17 cd17 ct17),
    a_NoSuch_init := f18, fd_NoSuch_init := (PySem.W.fnOf "__init__" "NoSuch.__init__" (defArgs s_NoSuch_init) (defBody s_NoSuch_init) (defScope s_NoSuch_init) .none kV18 dc18 pm18 an18 cd18 ct18),
    a_law_cell := f19, fd_law_cell := (PySem.W.fnOf "_law_cell" "_law_cell" (defArgs s_law_cell) (defBody s_law_cell) (defScope s_law_cell) .none kV19 dc19 pm19 an19 cd19 ct19),
    a_law_box := f20, fd_law_box := (PySem.W.fnOf "_law_box" "_law_box" (defArgs s_law_box) (defBody s_law_box) (defScope s_law_box) .none kV20 dc20 pm20 an20 cd20 ct20),
    a_law_take := f21, fd_law_take := (PySem.W.fnOf "_law_take" "_law_take" (defArgs s_law_take) (defBody s_law_take) (defScope s_law_take) .none kV21 dc21 pm21 an21 cd21 ct21),
    a_law_mixed := f22, fd_law_mixed := (PySem.W.fnOf "_law_mixed" "_law_mixed" (defArgs s_law_mixed) (defBody s_law_mixed) (defScope s_law_mixed) .none kV22 dc22 pm22 an22 cd22 ct22),
    a_law_value := f23, fd_law_value := (PySem.W.fnOf "_law_value" "_law_value" (defArgs s_law_value) (defBody s_law_value) (defScope s_law_value) .none kV23 dc23 pm23 an23 cd23 ct23),
    a_law_made := f24, fd_law_made := (PySem.W.fnOf "_law_made" "_law_made" (defArgs s_law_made) (defBody s_law_made) (defScope s_law_made) .none kV24 dc24 pm24 an24 cd24 ct24),
    a_law_field := f25, fd_law_field := (PySem.W.fnOf "_law_field" "_law_field" (defArgs s_law_field) (defBody s_law_field) (defScope s_law_field) .none kV25 dc25 pm25 an25 cd25 ct25),
    a_law_classes := f26, fd_law_classes := (PySem.W.fnOf "_law_classes" "_law_classes" (defArgs s_law_classes) (defBody s_law_classes) (defScope s_law_classes) .none kV26 dc26 pm26 an26 cd26 ct26),
    a_law_same := f27, fd_law_same := (PySem.W.fnOf "_law_same" "_law_same" (defArgs s_law_same) (defBody s_law_same) (defScope s_law_same) .none kV27 dc27 pm27 an27 cd27 ct27),
    a_law_right := f28, fd_law_right := (PySem.W.fnOf "_law_right" "_law_right" (defArgs s_law_right) (defBody s_law_right) (defScope s_law_right) .none kV28 dc28 pm28 an28 cd28 ct28),
    a_law := fa, fd_law := (PySem.W.fnOf "law" "law" (defArgs s_law) (defBody s_law) (defScope s_law) .none kV29 dc29 pm29 an29 cd29 ct29),
    c_KindError := C_KindError,
    c_ByZero := C_ByZero,
    c_BadText := C_BadText,
    c_Twice := C_Twice,
    c_BadName := C_BadName,
    c_BadFilling := C_BadFilling,
    c_BadLine := C_BadLine,
    c_Unknown := C_Unknown,
    c_BadMacro := C_BadMacro,
    c_BadTree := C_BadTree,
    c_BadPlace := C_BadPlace,
    c_BadKnot := C_BadKnot,
    c_NoKind := C_NoKind,
    c_BadKind := C_BadKind,
    c_BadForm := C_BadForm,
    c_BadDeeds := C_BadDeeds,
    c_BadWeight := C_BadWeight,
    c_BadUnits := C_BadUnits,
    c_BadBudget := C_BadBudget,
    c_BadStep := C_BadStep,
    c_TooMany := C_TooMany,
    c_NoSuch := C_NoSuch,
    c_NothingToUndo := C_NothingToUndo,
    c_NothingToRedo := C_NothingToRedo } := {
    F_BadText_init := F0, b_BadText_init := b0,
    F_Twice_init := F1, b_Twice_init := b1,
    F_BadName_init := F2, b_BadName_init := b2,
    F_BadFilling_init := F3, b_BadFilling_init := b3,
    F_BadLine_init := F4, b_BadLine_init := b4,
    F_Unknown_init := F5, b_Unknown_init := b5,
    F_BadMacro_init := F6, b_BadMacro_init := b6,
    F_BadTree_init := F7, b_BadTree_init := b7,
    F_BadPlace_init := F8, b_BadPlace_init := b8,
    F_BadKnot_init := F9, b_BadKnot_init := b9,
    F_BadKind_init := F10, b_BadKind_init := b10,
    F_BadForm_init := F11, b_BadForm_init := b11,
    F_BadDeeds_init := F12, b_BadDeeds_init := b12,
    F_BadWeight_init := F13, b_BadWeight_init := b13,
    F_BadUnits_init := F14, b_BadUnits_init := b14,
    F_BadBudget_init := F15, b_BadBudget_init := b15,
    F_BadStep_init := F16, b_BadStep_init := b16,
    F_TooMany_init := F17, b_TooMany_init := b17,
    F_NoSuch_init := F18, b_NoSuch_init := b18,
    F_law_cell := F19, b_law_cell := b19, m_law_cell := PySem.W.mg_of X G a19,
    F_law_box := F20, b_law_box := b20, m_law_box := PySem.W.mg_of X G a20,
    F_law_take := F21, b_law_take := b21, m_law_take := PySem.W.mg_of X G a21,
    F_law_mixed := F22, b_law_mixed := b22, m_law_mixed := PySem.W.mg_of X G a22,
    F_law_value := F23, b_law_value := b23, m_law_value := PySem.W.mg_of X G a23,
    F_law_made := F24, b_law_made := b24, m_law_made := PySem.W.mg_of X G a24,
    F_law_field := F25, b_law_field := b25, m_law_field := PySem.W.mg_of X G a25,
    F_law_classes := F26, b_law_classes := b26, m_law_classes := PySem.W.mg_of X G a26,
    F_law_same := F27, b_law_same := b27, m_law_same := PySem.W.mg_of X G a27,
    F_law_right := F28, b_law_right := b28, m_law_right := PySem.W.mg_of X G a28,
    F_law := F29, b_law := b29, m_law := PySem.W.mg_of X G a29,
    n_ValueError := PySem.W.mg_none_of X G z_ValueError,
    n_abs := PySem.W.mg_none_of X G z_abs,
    n_dict := PySem.W.mg_none_of X G z_dict,
    n_isinstance := PySem.W.mg_none_of X G z_isinstance,
    n_len := PySem.W.mg_none_of X G z_len,
    n_list := PySem.W.mg_none_of X G z_list,
    n_max := PySem.W.mg_none_of X G z_max,
    n_min := PySem.W.mg_none_of X G z_min,
    n_range := PySem.W.mg_none_of X G z_range,
    n_repr := PySem.W.mg_none_of X G z_repr,
    n_str := PySem.W.mg_none_of X G z_str,
    n_sum := PySem.W.mg_none_of X G z_sum,
    m_KindError := PySem.W.mg_of X G aC_KindError,
    x_KindError := x_KindError, k_KindError := k_KindError, b_KindError := b_KindError, t_KindError := t_KindError, te_KindError := U.exm_self b_KindError i_KindError t_KindError sC_KindError,
    cl_KindError := ⟨_, cl_KindError, rf_KindError⟩, ty_KindError := ty_KindError,
    m_ByZero := PySem.W.mg_of X G aC_ByZero,
    x_ByZero := x_ByZero, k_ByZero := k_ByZero, b_ByZero := b_ByZero, t_ByZero := t_ByZero, te_ByZero := U.exm_self b_ByZero i_ByZero t_ByZero sC_ByZero,
    cl_ByZero := ⟨_, cl_ByZero, rf_ByZero⟩, ty_ByZero := ty_ByZero,
    ec_ByZero := ⟨eg_ByZero, ek_ByZero, es_ByZero, ed_ByZero, ea_ByZero, ecn, ect, em_ByZero⟩,
    m_BadText := PySem.W.mg_of X G aC_BadText,
    cl_BadText := ⟨_, cl_BadText, rf_BadText⟩, ty_BadText := ty_BadText,
    ec_BadText := ⟨eg_BadText, ek_BadText, es_BadText, ed_BadText, ea_BadText, ecn, ect, em_BadText⟩,
    ox_BadText := ⟨⟨_, _, _, _, _, _, _, _, _, _, _, _, _, _, _, xL_BadText, rfl⟩, sa_BadText, eC_BadText, tC_BadText, kC_BadText⟩,
    xf_BadText := ⟨ga_BadText, gg_BadText, eC_BadText, hC_BadText⟩, te_BadText := U.exm_self eC_BadText iC_BadText tC_BadText sC_BadText, i_BadText := a0, t_BadText := tI_BadText,
    no_BadText_at := no_BadText_at,
    m_Twice := PySem.W.mg_of X G aC_Twice,
    cl_Twice := ⟨_, cl_Twice, rf_Twice⟩, ty_Twice := ty_Twice,
    ec_Twice := ⟨eg_Twice, ek_Twice, es_Twice, ed_Twice, ea_Twice, ecn, ect, em_Twice⟩,
    ox_Twice := ⟨⟨_, _, _, _, _, _, _, _, _, _, _, _, _, _, _, xL_Twice, rfl⟩, sa_Twice, eC_Twice, tC_Twice, kC_Twice⟩,
    xf_Twice := ⟨ga_Twice, gg_Twice, eC_Twice, hC_Twice⟩, te_Twice := U.exm_self eC_Twice iC_Twice tC_Twice sC_Twice, i_Twice := a1, t_Twice := tI_Twice,
    no_Twice_name := no_Twice_name,
    m_BadName := PySem.W.mg_of X G aC_BadName,
    cl_BadName := ⟨_, cl_BadName, rf_BadName⟩, ty_BadName := ty_BadName,
    ec_BadName := ⟨eg_BadName, ek_BadName, es_BadName, ed_BadName, ea_BadName, ecn, ect, em_BadName⟩,
    ox_BadName := ⟨⟨_, _, _, _, _, _, _, _, _, _, _, _, _, _, _, xL_BadName, rfl⟩, sa_BadName, eC_BadName, tC_BadName, kC_BadName⟩,
    xf_BadName := ⟨ga_BadName, gg_BadName, eC_BadName, hC_BadName⟩, te_BadName := U.exm_self eC_BadName iC_BadName tC_BadName sC_BadName, i_BadName := a2, t_BadName := tI_BadName,
    no_BadName_name := no_BadName_name,
    m_BadFilling := PySem.W.mg_of X G aC_BadFilling,
    cl_BadFilling := ⟨_, cl_BadFilling, rf_BadFilling⟩, ty_BadFilling := ty_BadFilling,
    ec_BadFilling := ⟨eg_BadFilling, ek_BadFilling, es_BadFilling, ed_BadFilling, ea_BadFilling, ecn, ect, em_BadFilling⟩,
    ox_BadFilling := ⟨⟨_, _, _, _, _, _, _, _, _, _, _, _, _, _, _, xL_BadFilling, rfl⟩, sa_BadFilling, eC_BadFilling, tC_BadFilling, kC_BadFilling⟩,
    xf_BadFilling := ⟨ga_BadFilling, gg_BadFilling, eC_BadFilling, hC_BadFilling⟩, te_BadFilling := U.exm_self eC_BadFilling iC_BadFilling tC_BadFilling sC_BadFilling, i_BadFilling := a3, t_BadFilling := tI_BadFilling,
    no_BadFilling_name := no_BadFilling_name,
    m_BadLine := PySem.W.mg_of X G aC_BadLine,
    cl_BadLine := ⟨_, cl_BadLine, rf_BadLine⟩, ty_BadLine := ty_BadLine,
    ec_BadLine := ⟨eg_BadLine, ek_BadLine, es_BadLine, ed_BadLine, ea_BadLine, ecn, ect, em_BadLine⟩,
    ox_BadLine := ⟨⟨_, _, _, _, _, _, _, _, _, _, _, _, _, _, _, xL_BadLine, rfl⟩, sa_BadLine, eC_BadLine, tC_BadLine, kC_BadLine⟩,
    xf_BadLine := ⟨ga_BadLine, gg_BadLine, eC_BadLine, hC_BadLine⟩, te_BadLine := U.exm_self eC_BadLine iC_BadLine tC_BadLine sC_BadLine, i_BadLine := a4, t_BadLine := tI_BadLine,
    no_BadLine_number := no_BadLine_number,
    m_Unknown := PySem.W.mg_of X G aC_Unknown,
    cl_Unknown := ⟨_, cl_Unknown, rf_Unknown⟩, ty_Unknown := ty_Unknown,
    ec_Unknown := ⟨eg_Unknown, ek_Unknown, es_Unknown, ed_Unknown, ea_Unknown, ecn, ect, em_Unknown⟩,
    ox_Unknown := ⟨⟨_, _, _, _, _, _, _, _, _, _, _, _, _, _, _, xL_Unknown, rfl⟩, sa_Unknown, eC_Unknown, tC_Unknown, kC_Unknown⟩,
    xf_Unknown := ⟨ga_Unknown, gg_Unknown, eC_Unknown, hC_Unknown⟩, te_Unknown := U.exm_self eC_Unknown iC_Unknown tC_Unknown sC_Unknown, i_Unknown := a5, t_Unknown := tI_Unknown,
    no_Unknown_name := no_Unknown_name,
    m_BadMacro := PySem.W.mg_of X G aC_BadMacro,
    cl_BadMacro := ⟨_, cl_BadMacro, rf_BadMacro⟩, ty_BadMacro := ty_BadMacro,
    ec_BadMacro := ⟨eg_BadMacro, ek_BadMacro, es_BadMacro, ed_BadMacro, ea_BadMacro, ecn, ect, em_BadMacro⟩,
    ox_BadMacro := ⟨⟨_, _, _, _, _, _, _, _, _, _, _, _, _, _, _, xL_BadMacro, rfl⟩, sa_BadMacro, eC_BadMacro, tC_BadMacro, kC_BadMacro⟩,
    xf_BadMacro := ⟨ga_BadMacro, gg_BadMacro, eC_BadMacro, hC_BadMacro⟩, te_BadMacro := U.exm_self eC_BadMacro iC_BadMacro tC_BadMacro sC_BadMacro, i_BadMacro := a6, t_BadMacro := tI_BadMacro,
    no_BadMacro_name := no_BadMacro_name,
    m_BadTree := PySem.W.mg_of X G aC_BadTree,
    cl_BadTree := ⟨_, cl_BadTree, rf_BadTree⟩, ty_BadTree := ty_BadTree,
    ec_BadTree := ⟨eg_BadTree, ek_BadTree, es_BadTree, ed_BadTree, ea_BadTree, ecn, ect, em_BadTree⟩,
    ox_BadTree := ⟨⟨_, _, _, _, _, _, _, _, _, _, _, _, _, _, _, xL_BadTree, rfl⟩, sa_BadTree, eC_BadTree, tC_BadTree, kC_BadTree⟩,
    xf_BadTree := ⟨ga_BadTree, gg_BadTree, eC_BadTree, hC_BadTree⟩, te_BadTree := U.exm_self eC_BadTree iC_BadTree tC_BadTree sC_BadTree, i_BadTree := a7, t_BadTree := tI_BadTree,
    no_BadTree_given := no_BadTree_given,
    m_BadPlace := PySem.W.mg_of X G aC_BadPlace,
    cl_BadPlace := ⟨_, cl_BadPlace, rf_BadPlace⟩, ty_BadPlace := ty_BadPlace,
    ec_BadPlace := ⟨eg_BadPlace, ek_BadPlace, es_BadPlace, ed_BadPlace, ea_BadPlace, ecn, ect, em_BadPlace⟩,
    ox_BadPlace := ⟨⟨_, _, _, _, _, _, _, _, _, _, _, _, _, _, _, xL_BadPlace, rfl⟩, sa_BadPlace, eC_BadPlace, tC_BadPlace, kC_BadPlace⟩,
    xf_BadPlace := ⟨ga_BadPlace, gg_BadPlace, eC_BadPlace, hC_BadPlace⟩, te_BadPlace := U.exm_self eC_BadPlace iC_BadPlace tC_BadPlace sC_BadPlace, i_BadPlace := a8, t_BadPlace := tI_BadPlace,
    no_BadPlace_given := no_BadPlace_given,
    m_BadKnot := PySem.W.mg_of X G aC_BadKnot,
    cl_BadKnot := ⟨_, cl_BadKnot, rf_BadKnot⟩, ty_BadKnot := ty_BadKnot,
    ec_BadKnot := ⟨eg_BadKnot, ek_BadKnot, es_BadKnot, ed_BadKnot, ea_BadKnot, ecn, ect, em_BadKnot⟩,
    ox_BadKnot := ⟨⟨_, _, _, _, _, _, _, _, _, _, _, _, _, _, _, xL_BadKnot, rfl⟩, sa_BadKnot, eC_BadKnot, tC_BadKnot, kC_BadKnot⟩,
    xf_BadKnot := ⟨ga_BadKnot, gg_BadKnot, eC_BadKnot, hC_BadKnot⟩, te_BadKnot := U.exm_self eC_BadKnot iC_BadKnot tC_BadKnot sC_BadKnot, i_BadKnot := a9, t_BadKnot := tI_BadKnot,
    no_BadKnot_given := no_BadKnot_given,
    m_NoKind := PySem.W.mg_of X G aC_NoKind,
    x_NoKind := x_NoKind, k_NoKind := k_NoKind, b_NoKind := b_NoKind, t_NoKind := t_NoKind, te_NoKind := U.exm_self b_NoKind i_NoKind t_NoKind sC_NoKind,
    cl_NoKind := ⟨_, cl_NoKind, rf_NoKind⟩, ty_NoKind := ty_NoKind,
    ec_NoKind := ⟨eg_NoKind, ek_NoKind, es_NoKind, ed_NoKind, ea_NoKind, ecn, ect, em_NoKind⟩,
    m_BadKind := PySem.W.mg_of X G aC_BadKind,
    cl_BadKind := ⟨_, cl_BadKind, rf_BadKind⟩, ty_BadKind := ty_BadKind,
    ec_BadKind := ⟨eg_BadKind, ek_BadKind, es_BadKind, ed_BadKind, ea_BadKind, ecn, ect, em_BadKind⟩,
    ox_BadKind := ⟨⟨_, _, _, _, _, _, _, _, _, _, _, _, _, _, _, xL_BadKind, rfl⟩, sa_BadKind, eC_BadKind, tC_BadKind, kC_BadKind⟩,
    xf_BadKind := ⟨ga_BadKind, gg_BadKind, eC_BadKind, hC_BadKind⟩, te_BadKind := U.exm_self eC_BadKind iC_BadKind tC_BadKind sC_BadKind, i_BadKind := a10, t_BadKind := tI_BadKind,
    no_BadKind_given := no_BadKind_given,
    m_BadForm := PySem.W.mg_of X G aC_BadForm,
    cl_BadForm := ⟨_, cl_BadForm, rf_BadForm⟩, ty_BadForm := ty_BadForm,
    ec_BadForm := ⟨eg_BadForm, ek_BadForm, es_BadForm, ed_BadForm, ea_BadForm, ecn, ect, em_BadForm⟩,
    ox_BadForm := ⟨⟨_, _, _, _, _, _, _, _, _, _, _, _, _, _, _, xL_BadForm, rfl⟩, sa_BadForm, eC_BadForm, tC_BadForm, kC_BadForm⟩,
    xf_BadForm := ⟨ga_BadForm, gg_BadForm, eC_BadForm, hC_BadForm⟩, te_BadForm := U.exm_self eC_BadForm iC_BadForm tC_BadForm sC_BadForm, i_BadForm := a11, t_BadForm := tI_BadForm,
    no_BadForm_number := no_BadForm_number,
    m_BadDeeds := PySem.W.mg_of X G aC_BadDeeds,
    cl_BadDeeds := ⟨_, cl_BadDeeds, rf_BadDeeds⟩, ty_BadDeeds := ty_BadDeeds,
    ec_BadDeeds := ⟨eg_BadDeeds, ek_BadDeeds, es_BadDeeds, ed_BadDeeds, ea_BadDeeds, ecn, ect, em_BadDeeds⟩,
    ox_BadDeeds := ⟨⟨_, _, _, _, _, _, _, _, _, _, _, _, _, _, _, xL_BadDeeds, rfl⟩, sa_BadDeeds, eC_BadDeeds, tC_BadDeeds, kC_BadDeeds⟩,
    xf_BadDeeds := ⟨ga_BadDeeds, gg_BadDeeds, eC_BadDeeds, hC_BadDeeds⟩, te_BadDeeds := U.exm_self eC_BadDeeds iC_BadDeeds tC_BadDeeds sC_BadDeeds, i_BadDeeds := a12, t_BadDeeds := tI_BadDeeds,
    no_BadDeeds_given := no_BadDeeds_given,
    m_BadWeight := PySem.W.mg_of X G aC_BadWeight,
    cl_BadWeight := ⟨_, cl_BadWeight, rf_BadWeight⟩, ty_BadWeight := ty_BadWeight,
    ec_BadWeight := ⟨eg_BadWeight, ek_BadWeight, es_BadWeight, ed_BadWeight, ea_BadWeight, ecn, ect, em_BadWeight⟩,
    ox_BadWeight := ⟨⟨_, _, _, _, _, _, _, _, _, _, _, _, _, _, _, xL_BadWeight, rfl⟩, sa_BadWeight, eC_BadWeight, tC_BadWeight, kC_BadWeight⟩,
    xf_BadWeight := ⟨ga_BadWeight, gg_BadWeight, eC_BadWeight, hC_BadWeight⟩, te_BadWeight := U.exm_self eC_BadWeight iC_BadWeight tC_BadWeight sC_BadWeight, i_BadWeight := a13, t_BadWeight := tI_BadWeight,
    no_BadWeight_given := no_BadWeight_given,
    m_BadUnits := PySem.W.mg_of X G aC_BadUnits,
    cl_BadUnits := ⟨_, cl_BadUnits, rf_BadUnits⟩, ty_BadUnits := ty_BadUnits,
    ec_BadUnits := ⟨eg_BadUnits, ek_BadUnits, es_BadUnits, ed_BadUnits, ea_BadUnits, ecn, ect, em_BadUnits⟩,
    ox_BadUnits := ⟨⟨_, _, _, _, _, _, _, _, _, _, _, _, _, _, _, xL_BadUnits, rfl⟩, sa_BadUnits, eC_BadUnits, tC_BadUnits, kC_BadUnits⟩,
    xf_BadUnits := ⟨ga_BadUnits, gg_BadUnits, eC_BadUnits, hC_BadUnits⟩, te_BadUnits := U.exm_self eC_BadUnits iC_BadUnits tC_BadUnits sC_BadUnits, i_BadUnits := a14, t_BadUnits := tI_BadUnits,
    no_BadUnits_given := no_BadUnits_given,
    m_BadBudget := PySem.W.mg_of X G aC_BadBudget,
    cl_BadBudget := ⟨_, cl_BadBudget, rf_BadBudget⟩, ty_BadBudget := ty_BadBudget,
    ec_BadBudget := ⟨eg_BadBudget, ek_BadBudget, es_BadBudget, ed_BadBudget, ea_BadBudget, ecn, ect, em_BadBudget⟩,
    ox_BadBudget := ⟨⟨_, _, _, _, _, _, _, _, _, _, _, _, _, _, _, xL_BadBudget, rfl⟩, sa_BadBudget, eC_BadBudget, tC_BadBudget, kC_BadBudget⟩,
    xf_BadBudget := ⟨ga_BadBudget, gg_BadBudget, eC_BadBudget, hC_BadBudget⟩, te_BadBudget := U.exm_self eC_BadBudget iC_BadBudget tC_BadBudget sC_BadBudget, i_BadBudget := a15, t_BadBudget := tI_BadBudget,
    no_BadBudget_given := no_BadBudget_given,
    m_BadStep := PySem.W.mg_of X G aC_BadStep,
    cl_BadStep := ⟨_, cl_BadStep, rf_BadStep⟩, ty_BadStep := ty_BadStep,
    ec_BadStep := ⟨eg_BadStep, ek_BadStep, es_BadStep, ed_BadStep, ea_BadStep, ecn, ect, em_BadStep⟩,
    ox_BadStep := ⟨⟨_, _, _, _, _, _, _, _, _, _, _, _, _, _, _, xL_BadStep, rfl⟩, sa_BadStep, eC_BadStep, tC_BadStep, kC_BadStep⟩,
    xf_BadStep := ⟨ga_BadStep, gg_BadStep, eC_BadStep, hC_BadStep⟩, te_BadStep := U.exm_self eC_BadStep iC_BadStep tC_BadStep sC_BadStep, i_BadStep := a16, t_BadStep := tI_BadStep,
    no_BadStep_given := no_BadStep_given,
    m_TooMany := PySem.W.mg_of X G aC_TooMany,
    cl_TooMany := ⟨_, cl_TooMany, rf_TooMany⟩, ty_TooMany := ty_TooMany,
    ec_TooMany := ⟨eg_TooMany, ek_TooMany, es_TooMany, ed_TooMany, ea_TooMany, ecn, ect, em_TooMany⟩,
    ox_TooMany := ⟨⟨_, _, _, _, _, _, _, _, _, _, _, _, _, _, _, xL_TooMany, rfl⟩, sa_TooMany, eC_TooMany, tC_TooMany, kC_TooMany⟩,
    xf_TooMany := ⟨ga_TooMany, gg_TooMany, eC_TooMany, hC_TooMany⟩, te_TooMany := U.exm_self eC_TooMany iC_TooMany tC_TooMany sC_TooMany, i_TooMany := a17, t_TooMany := tI_TooMany,
    no_TooMany_count := no_TooMany_count,
    m_NoSuch := PySem.W.mg_of X G aC_NoSuch,
    cl_NoSuch := ⟨_, cl_NoSuch, rf_NoSuch⟩, ty_NoSuch := ty_NoSuch,
    ec_NoSuch := ⟨eg_NoSuch, ek_NoSuch, es_NoSuch, ed_NoSuch, ea_NoSuch, ecn, ect, em_NoSuch⟩,
    ox_NoSuch := ⟨⟨_, _, _, _, _, _, _, _, _, _, _, _, _, _, _, xL_NoSuch, rfl⟩, sa_NoSuch, eC_NoSuch, tC_NoSuch, kC_NoSuch⟩,
    xf_NoSuch := ⟨ga_NoSuch, gg_NoSuch, eC_NoSuch, hC_NoSuch⟩, te_NoSuch := U.exm_self eC_NoSuch iC_NoSuch tC_NoSuch sC_NoSuch, i_NoSuch := a18, t_NoSuch := tI_NoSuch,
    no_NoSuch_name := no_NoSuch_name,
    m_NothingToUndo := PySem.W.mg_of X G aC_NothingToUndo,
    x_NothingToUndo := x_NothingToUndo, k_NothingToUndo := k_NothingToUndo, b_NothingToUndo := b_NothingToUndo, t_NothingToUndo := t_NothingToUndo, te_NothingToUndo := U.exm_self b_NothingToUndo i_NothingToUndo t_NothingToUndo sC_NothingToUndo,
    cl_NothingToUndo := ⟨_, cl_NothingToUndo, rf_NothingToUndo⟩, ty_NothingToUndo := ty_NothingToUndo,
    ec_NothingToUndo := ⟨eg_NothingToUndo, ek_NothingToUndo, es_NothingToUndo, ed_NothingToUndo, ea_NothingToUndo, ecn, ect, em_NothingToUndo⟩,
    m_NothingToRedo := PySem.W.mg_of X G aC_NothingToRedo,
    x_NothingToRedo := x_NothingToRedo, k_NothingToRedo := k_NothingToRedo, b_NothingToRedo := b_NothingToRedo, t_NothingToRedo := t_NothingToRedo, te_NothingToRedo := U.exm_self b_NothingToRedo i_NothingToRedo t_NothingToRedo sC_NothingToRedo,
    cl_NothingToRedo := ⟨_, cl_NothingToRedo, rf_NothingToRedo⟩, ty_NothingToRedo := ty_NothingToRedo,
    ec_NothingToRedo := ⟨eg_NothingToRedo, ek_NothingToRedo, es_NothingToRedo, ed_NothingToRedo, ea_NothingToRedo, ecn, ect, em_NothingToRedo⟩,
    nd := ndp }
  exact ⟨PySem.W.fnOf "law" "law" (defArgs s_law) (defBody s_law) (defScope s_law) .none kV29 dc29 pm29 an29 cd29 ct29, fun s v => .of_eq rfl, fun base _ _ => ok_law T⟩
theorem walk {l : PySem.W.OpenLaw} {q : Program} {loose : List Str} {XP : (Str → Option Value) → Heap → Prop} {YP : World → Heap → Prop} {d : DefRec} {K : Params → PySem.W.Frag} (hn : l.most = some 63) (hdf : d.params.defaults = [])
    (hY : ∀ (w : World) (h : Heap), YP w h → (K w.params).In h)
    (F : ∀ (w : World) (mg : Str → Option Value) (fa : Addr) (h : Heap), (K w.params).In h → h.Ns mainGlobals mg → mg d.name = some (.ref fa) →
      ∃ fd : FuncData, (∀ (s : Shared) (u : Value), BindsTo s fd ⟨[u], []⟩ [("script", u)]) ∧ ∀ base : Heap, (K w.params).In base → base.Ns mainGlobals mg → FnG l.prog w (K w.params) mg base 5 fa fd ["script"] (spLaw (K w.params))) :
    PySem.W.WalkO q loose XP YP l.row.toRowW d [] (fun f vs => PySem.call f vs) :=
  walkG (n := 63) (k := 5) (x := "script") (sp := fun w => spLaw (K w.params)) hn (by decide) hdf ⟨rfl, by decide, by decide⟩ hY F (fun _ _ a ns hl _ hS => ⟨a, ns, rfl, hS, hl, fun _ => rfl⟩)
end Toy
open PySem PySem.W PyProof.Rows
set_option maxRecDepth 100000 in
set_option maxHeartbeats 0 in
theorem PySem.Challenge.cw_widestkind_k01_exceptions_apart_holds : PySem.Challenge.rw_widestkind_k01_exceptions_apart.Holds := by
  w_on; o_law; k_head; (case hw => w_witness2)
  k_fill
  refine Toy.walk (l := PySem.Challenge.rw_widestkind_k01_exceptions_apart) rfl rfl (fun w h Y => PySem.W.kIn_of Y) ?F
  case F =>
    intro w mg fa h KX G hmg
    refine' Toy.all_mk KX G hmg ?aC_KindError ?aC_ByZero ?aC_BadText ?aC_Twice ?aC_BadName ?aC_BadFilling ?aC_BadLine ?aC_Unknown ?aC_BadMacro ?aC_BadTree ?aC_BadPlace ?aC_BadKnot ?aC_NoKind ?aC_BadKind ?aC_BadForm ?aC_BadDeeds ?aC_BadWeight ?aC_BadUnits ?aC_BadBudget ?aC_BadStep ?aC_TooMany ?aC_NoSuch ?aC_NothingToUndo ?aC_NothingToRedo ?a0 ?l0 ?e0 ?k0 ?a1 ?l1 ?e1 ?k1 ?a2 ?l2 ?e2 ?k2 ?a3 ?l3 ?e3 ?k3 ?a4 ?l4 ?e4 ?k4 ?a5 ?l5 ?e5 ?k5 ?a6 ?l6 ?e6 ?k6 ?a7 ?l7 ?e7 ?k7 ?a8 ?l8 ?e8 ?k8 ?a9 ?l9 ?e9 ?k9 ?a10 ?l10 ?e10 ?k10 ?a11 ?l11 ?e11 ?k11 ?a12 ?l12 ?e12 ?k12 ?a13 ?l13 ?e13 ?k13 ?a14 ?l14 ?e14 ?k14 ?a15 ?l15 ?e15 ?k15 ?a16 ?l16 ?e16 ?k16 ?a17 ?l17 ?e17 ?k17 ?a18 ?l18 ?e18 ?k18 ?a19 ?l19 ?e19 ?k19 ?a20 ?l20 ?e20 ?k20 ?a21 ?l21 ?e21 ?k21 ?a22 ?l22 ?e22 ?k22 ?a23 ?l23 ?e23 ?k23 ?a24 ?l24 ?e24 ?k24 ?a25 ?l25 ?e25 ?k25 ?a26 ?l26 ?e26 ?k26 ?a27 ?l27 ?e27 ?k27 ?a28 ?l28 ?e28 ?k28 ?a29 ?l29 ?e29 ?k29 ?z_ValueError ?z_abs ?z_dict ?z_isinstance ?z_len ?z_list ?z_max ?z_min ?z_range ?z_repr ?z_str ?z_sum ?x_KindError ?k_KindError ?b_KindError ?t_KindError ?i_KindError ?sC_KindError ?cl_KindError ?rf_KindError ?ty_KindError ?x_ByZero ?k_ByZero ?b_ByZero ?t_ByZero ?i_ByZero ?sC_ByZero ?cl_ByZero ?rf_ByZero ?ty_ByZero ?eg_ByZero ?ek_ByZero ?es_ByZero ?ed_ByZero ?ea_ByZero ?em_ByZero ?cl_BadText ?rf_BadText ?ty_BadText ?eg_BadText ?ek_BadText ?es_BadText ?ed_BadText ?ea_BadText ?em_BadText ?xL_BadText ?sa_BadText ?ga_BadText ?gg_BadText ?eC_BadText ?tC_BadText ?kC_BadText ?hC_BadText ?iC_BadText ?sC_BadText ?tI_BadText ?no_BadText_at ?cl_Twice ?rf_Twice ?ty_Twice ?eg_Twice ?ek_Twice ?es_Twice ?ed_Twice ?ea_Twice ?em_Twice ?xL_Twice ?sa_Twice ?ga_Twice ?gg_Twice ?eC_Twice ?tC_Twice ?kC_Twice ?hC_Twice ?iC_Twice ?sC_Twice ?tI_Twice ?no_Twice_name ?cl_BadName ?rf_BadName ?ty_BadName ?eg_BadName ?ek_BadName ?es_BadName ?ed_BadName ?ea_BadName ?em_BadName ?xL_BadName ?sa_BadName ?ga_BadName ?gg_BadName ?eC_BadName ?tC_BadName ?kC_BadName ?hC_BadName ?iC_BadName ?sC_BadName ?tI_BadName ?no_BadName_name ?cl_BadFilling ?rf_BadFilling ?ty_BadFilling ?eg_BadFilling ?ek_BadFilling ?es_BadFilling ?ed_BadFilling ?ea_BadFilling ?em_BadFilling ?xL_BadFilling ?sa_BadFilling ?ga_BadFilling ?gg_BadFilling ?eC_BadFilling ?tC_BadFilling ?kC_BadFilling ?hC_BadFilling ?iC_BadFilling ?sC_BadFilling ?tI_BadFilling ?no_BadFilling_name ?cl_BadLine ?rf_BadLine ?ty_BadLine ?eg_BadLine ?ek_BadLine ?es_BadLine ?ed_BadLine ?ea_BadLine ?em_BadLine ?xL_BadLine ?sa_BadLine ?ga_BadLine ?gg_BadLine ?eC_BadLine ?tC_BadLine ?kC_BadLine ?hC_BadLine ?iC_BadLine ?sC_BadLine ?tI_BadLine ?no_BadLine_number ?cl_Unknown ?rf_Unknown ?ty_Unknown ?eg_Unknown ?ek_Unknown ?es_Unknown ?ed_Unknown ?ea_Unknown ?em_Unknown ?xL_Unknown ?sa_Unknown ?ga_Unknown ?gg_Unknown ?eC_Unknown ?tC_Unknown ?kC_Unknown ?hC_Unknown ?iC_Unknown ?sC_Unknown ?tI_Unknown ?no_Unknown_name ?cl_BadMacro ?rf_BadMacro ?ty_BadMacro ?eg_BadMacro ?ek_BadMacro ?es_BadMacro ?ed_BadMacro ?ea_BadMacro ?em_BadMacro ?xL_BadMacro ?sa_BadMacro ?ga_BadMacro ?gg_BadMacro ?eC_BadMacro ?tC_BadMacro ?kC_BadMacro ?hC_BadMacro ?iC_BadMacro ?sC_BadMacro ?tI_BadMacro ?no_BadMacro_name ?cl_BadTree ?rf_BadTree ?ty_BadTree ?eg_BadTree ?ek_BadTree ?es_BadTree ?ed_BadTree ?ea_BadTree ?em_BadTree ?xL_BadTree ?sa_BadTree ?ga_BadTree ?gg_BadTree ?eC_BadTree ?tC_BadTree ?kC_BadTree ?hC_BadTree ?iC_BadTree ?sC_BadTree ?tI_BadTree ?no_BadTree_given ?cl_BadPlace ?rf_BadPlace ?ty_BadPlace ?eg_BadPlace ?ek_BadPlace ?es_BadPlace ?ed_BadPlace ?ea_BadPlace ?em_BadPlace ?xL_BadPlace ?sa_BadPlace ?ga_BadPlace ?gg_BadPlace ?eC_BadPlace ?tC_BadPlace ?kC_BadPlace ?hC_BadPlace ?iC_BadPlace ?sC_BadPlace ?tI_BadPlace ?no_BadPlace_given ?cl_BadKnot ?rf_BadKnot ?ty_BadKnot ?eg_BadKnot ?ek_BadKnot ?es_BadKnot ?ed_BadKnot ?ea_BadKnot ?em_BadKnot ?xL_BadKnot ?sa_BadKnot ?ga_BadKnot ?gg_BadKnot ?eC_BadKnot ?tC_BadKnot ?kC_BadKnot ?hC_BadKnot ?iC_BadKnot ?sC_BadKnot ?tI_BadKnot ?no_BadKnot_given ?x_NoKind ?k_NoKind ?b_NoKind ?t_NoKind ?i_NoKind ?sC_NoKind ?cl_NoKind ?rf_NoKind ?ty_NoKind ?eg_NoKind ?ek_NoKind ?es_NoKind ?ed_NoKind ?ea_NoKind ?em_NoKind ?cl_BadKind ?rf_BadKind ?ty_BadKind ?eg_BadKind ?ek_BadKind ?es_BadKind ?ed_BadKind ?ea_BadKind ?em_BadKind ?xL_BadKind ?sa_BadKind ?ga_BadKind ?gg_BadKind ?eC_BadKind ?tC_BadKind ?kC_BadKind ?hC_BadKind ?iC_BadKind ?sC_BadKind ?tI_BadKind ?no_BadKind_given ?cl_BadForm ?rf_BadForm ?ty_BadForm ?eg_BadForm ?ek_BadForm ?es_BadForm ?ed_BadForm ?ea_BadForm ?em_BadForm ?xL_BadForm ?sa_BadForm ?ga_BadForm ?gg_BadForm ?eC_BadForm ?tC_BadForm ?kC_BadForm ?hC_BadForm ?iC_BadForm ?sC_BadForm ?tI_BadForm ?no_BadForm_number ?cl_BadDeeds ?rf_BadDeeds ?ty_BadDeeds ?eg_BadDeeds ?ek_BadDeeds ?es_BadDeeds ?ed_BadDeeds ?ea_BadDeeds ?em_BadDeeds ?xL_BadDeeds ?sa_BadDeeds ?ga_BadDeeds ?gg_BadDeeds ?eC_BadDeeds ?tC_BadDeeds ?kC_BadDeeds ?hC_BadDeeds ?iC_BadDeeds ?sC_BadDeeds ?tI_BadDeeds ?no_BadDeeds_given ?cl_BadWeight ?rf_BadWeight ?ty_BadWeight ?eg_BadWeight ?ek_BadWeight ?es_BadWeight ?ed_BadWeight ?ea_BadWeight ?em_BadWeight ?xL_BadWeight ?sa_BadWeight ?ga_BadWeight ?gg_BadWeight ?eC_BadWeight ?tC_BadWeight ?kC_BadWeight ?hC_BadWeight ?iC_BadWeight ?sC_BadWeight ?tI_BadWeight ?no_BadWeight_given ?cl_BadUnits ?rf_BadUnits ?ty_BadUnits ?eg_BadUnits ?ek_BadUnits ?es_BadUnits ?ed_BadUnits ?ea_BadUnits ?em_BadUnits ?xL_BadUnits ?sa_BadUnits ?ga_BadUnits ?gg_BadUnits ?eC_BadUnits ?tC_BadUnits ?kC_BadUnits ?hC_BadUnits ?iC_BadUnits ?sC_BadUnits ?tI_BadUnits ?no_BadUnits_given ?cl_BadBudget ?rf_BadBudget ?ty_BadBudget ?eg_BadBudget ?ek_BadBudget ?es_BadBudget ?ed_BadBudget ?ea_BadBudget ?em_BadBudget ?xL_BadBudget ?sa_BadBudget ?ga_BadBudget ?gg_BadBudget ?eC_BadBudget ?tC_BadBudget ?kC_BadBudget ?hC_BadBudget ?iC_BadBudget ?sC_BadBudget ?tI_BadBudget ?no_BadBudget_given ?cl_BadStep ?rf_BadStep ?ty_BadStep ?eg_BadStep ?ek_BadStep ?es_BadStep ?ed_BadStep ?ea_BadStep ?em_BadStep ?xL_BadStep ?sa_BadStep ?ga_BadStep ?gg_BadStep ?eC_BadStep ?tC_BadStep ?kC_BadStep ?hC_BadStep ?iC_BadStep ?sC_BadStep ?tI_BadStep ?no_BadStep_given ?cl_TooMany ?rf_TooMany ?ty_TooMany ?eg_TooMany ?ek_TooMany ?es_TooMany ?ed_TooMany ?ea_TooMany ?em_TooMany ?xL_TooMany ?sa_TooMany ?ga_TooMany ?gg_TooMany ?eC_TooMany ?tC_TooMany ?kC_TooMany ?hC_TooMany ?iC_TooMany ?sC_TooMany ?tI_TooMany ?no_TooMany_count ?cl_NoSuch ?rf_NoSuch ?ty_NoSuch ?eg_NoSuch ?ek_NoSuch ?es_NoSuch ?ed_NoSuch ?ea_NoSuch ?em_NoSuch ?xL_NoSuch ?sa_NoSuch ?ga_NoSuch ?gg_NoSuch ?eC_NoSuch ?tC_NoSuch ?kC_NoSuch ?hC_NoSuch ?iC_NoSuch ?sC_NoSuch ?tI_NoSuch ?no_NoSuch_name ?x_NothingToUndo ?k_NothingToUndo ?b_NothingToUndo ?t_NothingToUndo ?i_NothingToUndo ?sC_NothingToUndo ?cl_NothingToUndo ?rf_NothingToUndo ?ty_NothingToUndo ?eg_NothingToUndo ?ek_NothingToUndo ?es_NothingToUndo ?ed_NothingToUndo ?ea_NothingToUndo ?em_NothingToUndo ?x_NothingToRedo ?k_NothingToRedo ?b_NothingToRedo ?t_NothingToRedo ?i_NothingToRedo ?sC_NothingToRedo ?cl_NothingToRedo ?rf_NothingToRedo ?ty_NothingToRedo ?eg_NothingToRedo ?ek_NothingToRedo ?es_NothingToRedo ?ed_NothingToRedo ?ea_NothingToRedo ?em_NothingToRedo ?ecn ?ect ?ndp
    (case aC_KindError => k_is)
    (case aC_ByZero => k_is)
    (case aC_BadText => k_is)
    (case aC_Twice => k_is)
    (case aC_BadName => k_is)
    (case aC_BadFilling => k_is)
    (case aC_BadLine => k_is)
    (case aC_Unknown => k_is)
    (case aC_BadMacro => k_is)
    (case aC_BadTree => k_is)
    (case aC_BadPlace => k_is)
    (case aC_BadKnot => k_is)
    (case aC_NoKind => k_is)
    (case aC_BadKind => k_is)
    (case aC_BadForm => k_is)
    (case aC_BadDeeds => k_is)
    (case aC_BadWeight => k_is)
    (case aC_BadUnits => k_is)
    (case aC_BadBudget => k_is)
    (case aC_BadStep => k_is)
    (case aC_TooMany => k_is)
    (case aC_NoSuch => k_is)
    (case aC_NothingToUndo => k_is)
    (case aC_NothingToRedo => k_is)
    (case a0 => k_is)
    (case l0 => k_is)
    (case e0 => k_is)
    (case k0 => k_is)
    (case a1 => k_is)
    (case l1 => k_is)
    (case e1 => k_is)
    (case k1 => k_is)
    (case a2 => k_is)
    (case l2 => k_is)
    (case e2 => k_is)
    (case k2 => k_is)
    (case a3 => k_is)
    (case l3 => k_is)
    (case e3 => k_is)
    (case k3 => k_is)
    (case a4 => k_is)
    (case l4 => k_is)
    (case e4 => k_is)
    (case k4 => k_is)
    (case a5 => k_is)
    (case l5 => k_is)
    (case e5 => k_is)
    (case k5 => k_is)
    (case a6 => k_is)
    (case l6 => k_is)
    (case e6 => k_is)
    (case k6 => k_is)
    (case a7 => k_is)
    (case l7 => k_is)
    (case e7 => k_is)
    (case k7 => k_is)
    (case a8 => k_is)
    (case l8 => k_is)
    (case e8 => k_is)
    (case k8 => k_is)
    (case a9 => k_is)
    (case l9 => k_is)
    (case e9 => k_is)
    (case k9 => k_is)
    (case a10 => k_is)
    (case l10 => k_is)
    (case e10 => k_is)
    (case k10 => k_is)
    (case a11 => k_is)
    (case l11 => k_is)
    (case e11 => k_is)
    (case k11 => k_is)
    (case a12 => k_is)
    (case l12 => k_is)
    (case e12 => k_is)
    (case k12 => k_is)
    (case a13 => k_is)
    (case l13 => k_is)
    (case e13 => k_is)
    (case k13 => k_is)
    (case a14 => k_is)
    (case l14 => k_is)
    (case e14 => k_is)
    (case k14 => k_is)
    (case a15 => k_is)
    (case l15 => k_is)
    (case e15 => k_is)
    (case k15 => k_is)
    (case a16 => k_is)
    (case l16 => k_is)
    (case e16 => k_is)
    (case k16 => k_is)
    (case a17 => k_is)
    (case l17 => k_is)
    (case e17 => k_is)
    (case k17 => k_is)
    (case a18 => k_is)
    (case l18 => k_is)
    (case e18 => k_is)
    (case k18 => k_is)
    (case a19 => k_is)
    (case l19 => k_is)
    (case e19 => k_is)
    (case k19 => k_is)
    (case a20 => k_is)
    (case l20 => k_is)
    (case e20 => k_is)
    (case k20 => k_is)
    (case a21 => k_is)
    (case l21 => k_is)
    (case e21 => k_is)
    (case k21 => k_is)
    (case a22 => k_is)
    (case l22 => k_is)
    (case e22 => k_is)
    (case k22 => k_is)
    (case a23 => k_is)
    (case l23 => k_is)
    (case e23 => k_is)
    (case k23 => k_is)
    (case a24 => k_is)
    (case l24 => k_is)
    (case e24 => k_is)
    (case k24 => k_is)
    (case a25 => k_is)
    (case l25 => k_is)
    (case e25 => k_is)
    (case k25 => k_is)
    (case a26 => k_is)
    (case l26 => k_is)
    (case e26 => k_is)
    (case k26 => k_is)
    (case a27 => k_is)
    (case l27 => k_is)
    (case e27 => k_is)
    (case k27 => k_is)
    (case a28 => k_is)
    (case l28 => k_is)
    (case e28 => k_is)
    (case k28 => k_is)
    (case a29 => k_is)
    (case l29 => k_is)
    (case e29 => k_is)
    (case k29 => k_is)
    (case z_ValueError => k_is)
    (case z_abs => k_is)
    (case z_dict => k_is)
    (case z_isinstance => k_is)
    (case z_len => k_is)
    (case z_list => k_is)
    (case z_max => k_is)
    (case z_min => k_is)
    (case z_range => k_is)
    (case z_repr => k_is)
    (case z_str => k_is)
    (case z_sum => k_is)
    (case x_KindError => k_exc)
    (case k_KindError => k_is)
    (case b_KindError => k_is)
    (case t_KindError => k_is)
    (case i_KindError => k_is)
    (case sC_KindError => first | rfl | k_is)
    (case cl_KindError => k_is)
    (case rf_KindError => exact rfl)
    (case ty_KindError => k_is)
    (case x_ByZero => k_exc)
    (case k_ByZero => k_is)
    (case b_ByZero => k_is)
    (case t_ByZero => k_is)
    (case i_ByZero => k_is)
    (case sC_ByZero => first | rfl | k_is)
    (case cl_ByZero => k_is)
    (case rf_ByZero => exact rfl)
    (case ty_ByZero => k_is)
    (case eg_ByZero => k_is)
    (case ek_ByZero => k_is)
    (case es_ByZero => k_is)
    (case ed_ByZero => k_is)
    (case ea_ByZero => k_is)
    (case em_ByZero => k_is)
    (case cl_BadText => k_is)
    (case rf_BadText => exact rfl)
    (case ty_BadText => k_is)
    (case eg_BadText => k_is)
    (case ek_BadText => k_is)
    (case es_BadText => k_is)
    (case ed_BadText => k_is)
    (case ea_BadText => k_is)
    (case em_BadText => k_is)
    (case xL_BadText => k_is)
    (case sa_BadText => k_is)
    (case ga_BadText => k_is)
    (case gg_BadText => k_is)
    (case eC_BadText => k_is)
    (case tC_BadText => k_is)
    (case kC_BadText => k_is)
    (case hC_BadText => k_is)
    (case iC_BadText => k_is)
    (case sC_BadText => first | rfl | k_is)
    (case tI_BadText => k_is)
    (case no_BadText_at => k_is)
    (case cl_Twice => k_is)
    (case rf_Twice => exact rfl)
    (case ty_Twice => k_is)
    (case eg_Twice => k_is)
    (case ek_Twice => k_is)
    (case es_Twice => k_is)
    (case ed_Twice => k_is)
    (case ea_Twice => k_is)
    (case em_Twice => k_is)
    (case xL_Twice => k_is)
    (case sa_Twice => k_is)
    (case ga_Twice => k_is)
    (case gg_Twice => k_is)
    (case eC_Twice => k_is)
    (case tC_Twice => k_is)
    (case kC_Twice => k_is)
    (case hC_Twice => k_is)
    (case iC_Twice => k_is)
    (case sC_Twice => first | rfl | k_is)
    (case tI_Twice => k_is)
    (case no_Twice_name => k_is)
    (case cl_BadName => k_is)
    (case rf_BadName => exact rfl)
    (case ty_BadName => k_is)
    (case eg_BadName => k_is)
    (case ek_BadName => k_is)
    (case es_BadName => k_is)
    (case ed_BadName => k_is)
    (case ea_BadName => k_is)
    (case em_BadName => k_is)
    (case xL_BadName => k_is)
    (case sa_BadName => k_is)
    (case ga_BadName => k_is)
    (case gg_BadName => k_is)
    (case eC_BadName => k_is)
    (case tC_BadName => k_is)
    (case kC_BadName => k_is)
    (case hC_BadName => k_is)
    (case iC_BadName => k_is)
    (case sC_BadName => first | rfl | k_is)
    (case tI_BadName => k_is)
    (case no_BadName_name => k_is)
    (case cl_BadFilling => k_is)
    (case rf_BadFilling => exact rfl)
    (case ty_BadFilling => k_is)
    (case eg_BadFilling => k_is)
    (case ek_BadFilling => k_is)
    (case es_BadFilling => k_is)
    (case ed_BadFilling => k_is)
    (case ea_BadFilling => k_is)
    (case em_BadFilling => k_is)
    (case xL_BadFilling => k_is)
    (case sa_BadFilling => k_is)
    (case ga_BadFilling => k_is)
    (case gg_BadFilling => k_is)
    (case eC_BadFilling => k_is)
    (case tC_BadFilling => k_is)
    (case kC_BadFilling => k_is)
    (case hC_BadFilling => k_is)
    (case iC_BadFilling => k_is)
    (case sC_BadFilling => first | rfl | k_is)
    (case tI_BadFilling => k_is)
    (case no_BadFilling_name => k_is)
    (case cl_BadLine => k_is)
    (case rf_BadLine => exact rfl)
    (case ty_BadLine => k_is)
    (case eg_BadLine => k_is)
    (case ek_BadLine => k_is)
    (case es_BadLine => k_is)
    (case ed_BadLine => k_is)
    (case ea_BadLine => k_is)
    (case em_BadLine => k_is)
    (case xL_BadLine => k_is)
    (case sa_BadLine => k_is)
    (case ga_BadLine => k_is)
    (case gg_BadLine => k_is)
    (case eC_BadLine => k_is)
    (case tC_BadLine => k_is)
    (case kC_BadLine => k_is)
    (case hC_BadLine => k_is)
    (case iC_BadLine => k_is)
    (case sC_BadLine => first | rfl | k_is)
    (case tI_BadLine => k_is)
    (case no_BadLine_number => k_is)
    (case cl_Unknown => k_is)
    (case rf_Unknown => exact rfl)
    (case ty_Unknown => k_is)
    (case eg_Unknown => k_is)
    (case ek_Unknown => k_is)
    (case es_Unknown => k_is)
    (case ed_Unknown => k_is)
    (case ea_Unknown => k_is)
    (case em_Unknown => k_is)
    (case xL_Unknown => k_is)
    (case sa_Unknown => k_is)
    (case ga_Unknown => k_is)
    (case gg_Unknown => k_is)
    (case eC_Unknown => k_is)
    (case tC_Unknown => k_is)
    (case kC_Unknown => k_is)
    (case hC_Unknown => k_is)
    (case iC_Unknown => k_is)
    (case sC_Unknown => first | rfl | k_is)
    (case tI_Unknown => k_is)
    (case no_Unknown_name => k_is)
    (case cl_BadMacro => k_is)
    (case rf_BadMacro => exact rfl)
    (case ty_BadMacro => k_is)
    (case eg_BadMacro => k_is)
    (case ek_BadMacro => k_is)
    (case es_BadMacro => k_is)
    (case ed_BadMacro => k_is)
    (case ea_BadMacro => k_is)
    (case em_BadMacro => k_is)
    (case xL_BadMacro => k_is)
    (case sa_BadMacro => k_is)
    (case ga_BadMacro => k_is)
    (case gg_BadMacro => k_is)
    (case eC_BadMacro => k_is)
    (case tC_BadMacro => k_is)
    (case kC_BadMacro => k_is)
    (case hC_BadMacro => k_is)
    (case iC_BadMacro => k_is)
    (case sC_BadMacro => first | rfl | k_is)
    (case tI_BadMacro => k_is)
    (case no_BadMacro_name => k_is)
    (case cl_BadTree => k_is)
    (case rf_BadTree => exact rfl)
    (case ty_BadTree => k_is)
    (case eg_BadTree => k_is)
    (case ek_BadTree => k_is)
    (case es_BadTree => k_is)
    (case ed_BadTree => k_is)
    (case ea_BadTree => k_is)
    (case em_BadTree => k_is)
    (case xL_BadTree => k_is)
    (case sa_BadTree => k_is)
    (case ga_BadTree => k_is)
    (case gg_BadTree => k_is)
    (case eC_BadTree => k_is)
    (case tC_BadTree => k_is)
    (case kC_BadTree => k_is)
    (case hC_BadTree => k_is)
    (case iC_BadTree => k_is)
    (case sC_BadTree => first | rfl | k_is)
    (case tI_BadTree => k_is)
    (case no_BadTree_given => k_is)
    (case cl_BadPlace => k_is)
    (case rf_BadPlace => exact rfl)
    (case ty_BadPlace => k_is)
    (case eg_BadPlace => k_is)
    (case ek_BadPlace => k_is)
    (case es_BadPlace => k_is)
    (case ed_BadPlace => k_is)
    (case ea_BadPlace => k_is)
    (case em_BadPlace => k_is)
    (case xL_BadPlace => k_is)
    (case sa_BadPlace => k_is)
    (case ga_BadPlace => k_is)
    (case gg_BadPlace => k_is)
    (case eC_BadPlace => k_is)
    (case tC_BadPlace => k_is)
    (case kC_BadPlace => k_is)
    (case hC_BadPlace => k_is)
    (case iC_BadPlace => k_is)
    (case sC_BadPlace => first | rfl | k_is)
    (case tI_BadPlace => k_is)
    (case no_BadPlace_given => k_is)
    (case cl_BadKnot => k_is)
    (case rf_BadKnot => exact rfl)
    (case ty_BadKnot => k_is)
    (case eg_BadKnot => k_is)
    (case ek_BadKnot => k_is)
    (case es_BadKnot => k_is)
    (case ed_BadKnot => k_is)
    (case ea_BadKnot => k_is)
    (case em_BadKnot => k_is)
    (case xL_BadKnot => k_is)
    (case sa_BadKnot => k_is)
    (case ga_BadKnot => k_is)
    (case gg_BadKnot => k_is)
    (case eC_BadKnot => k_is)
    (case tC_BadKnot => k_is)
    (case kC_BadKnot => k_is)
    (case hC_BadKnot => k_is)
    (case iC_BadKnot => k_is)
    (case sC_BadKnot => first | rfl | k_is)
    (case tI_BadKnot => k_is)
    (case no_BadKnot_given => k_is)
    (case x_NoKind => k_exc)
    (case k_NoKind => k_is)
    (case b_NoKind => k_is)
    (case t_NoKind => k_is)
    (case i_NoKind => k_is)
    (case sC_NoKind => first | rfl | k_is)
    (case cl_NoKind => k_is)
    (case rf_NoKind => exact rfl)
    (case ty_NoKind => k_is)
    (case eg_NoKind => k_is)
    (case ek_NoKind => k_is)
    (case es_NoKind => k_is)
    (case ed_NoKind => k_is)
    (case ea_NoKind => k_is)
    (case em_NoKind => k_is)
    (case cl_BadKind => k_is)
    (case rf_BadKind => exact rfl)
    (case ty_BadKind => k_is)
    (case eg_BadKind => k_is)
    (case ek_BadKind => k_is)
    (case es_BadKind => k_is)
    (case ed_BadKind => k_is)
    (case ea_BadKind => k_is)
    (case em_BadKind => k_is)
    (case xL_BadKind => k_is)
    (case sa_BadKind => k_is)
    (case ga_BadKind => k_is)
    (case gg_BadKind => k_is)
    (case eC_BadKind => k_is)
    (case tC_BadKind => k_is)
    (case kC_BadKind => k_is)
    (case hC_BadKind => k_is)
    (case iC_BadKind => k_is)
    (case sC_BadKind => first | rfl | k_is)
    (case tI_BadKind => k_is)
    (case no_BadKind_given => k_is)
    (case cl_BadForm => k_is)
    (case rf_BadForm => exact rfl)
    (case ty_BadForm => k_is)
    (case eg_BadForm => k_is)
    (case ek_BadForm => k_is)
    (case es_BadForm => k_is)
    (case ed_BadForm => k_is)
    (case ea_BadForm => k_is)
    (case em_BadForm => k_is)
    (case xL_BadForm => k_is)
    (case sa_BadForm => k_is)
    (case ga_BadForm => k_is)
    (case gg_BadForm => k_is)
    (case eC_BadForm => k_is)
    (case tC_BadForm => k_is)
    (case kC_BadForm => k_is)
    (case hC_BadForm => k_is)
    (case iC_BadForm => k_is)
    (case sC_BadForm => first | rfl | k_is)
    (case tI_BadForm => k_is)
    (case no_BadForm_number => k_is)
    (case cl_BadDeeds => k_is)
    (case rf_BadDeeds => exact rfl)
    (case ty_BadDeeds => k_is)
    (case eg_BadDeeds => k_is)
    (case ek_BadDeeds => k_is)
    (case es_BadDeeds => k_is)
    (case ed_BadDeeds => k_is)
    (case ea_BadDeeds => k_is)
    (case em_BadDeeds => k_is)
    (case xL_BadDeeds => k_is)
    (case sa_BadDeeds => k_is)
    (case ga_BadDeeds => k_is)
    (case gg_BadDeeds => k_is)
    (case eC_BadDeeds => k_is)
    (case tC_BadDeeds => k_is)
    (case kC_BadDeeds => k_is)
    (case hC_BadDeeds => k_is)
    (case iC_BadDeeds => k_is)
    (case sC_BadDeeds => first | rfl | k_is)
    (case tI_BadDeeds => k_is)
    (case no_BadDeeds_given => k_is)
    (case cl_BadWeight => k_is)
    (case rf_BadWeight => exact rfl)
    (case ty_BadWeight => k_is)
    (case eg_BadWeight => k_is)
    (case ek_BadWeight => k_is)
    (case es_BadWeight => k_is)
    (case ed_BadWeight => k_is)
    (case ea_BadWeight => k_is)
    (case em_BadWeight => k_is)
    (case xL_BadWeight => k_is)
    (case sa_BadWeight => k_is)
    (case ga_BadWeight => k_is)
    (case gg_BadWeight => k_is)
    (case eC_BadWeight => k_is)
    (case tC_BadWeight => k_is)
    (case kC_BadWeight => k_is)
    (case hC_BadWeight => k_is)
    (case iC_BadWeight => k_is)
    (case sC_BadWeight => first | rfl | k_is)
    (case tI_BadWeight => k_is)
    (case no_BadWeight_given => k_is)
    (case cl_BadUnits => k_is)
    (case rf_BadUnits => exact rfl)
    (case ty_BadUnits => k_is)
    (case eg_BadUnits => k_is)
    (case ek_BadUnits => k_is)
    (case es_BadUnits => k_is)
    (case ed_BadUnits => k_is)
    (case ea_BadUnits => k_is)
    (case em_BadUnits => k_is)
    (case xL_BadUnits => k_is)
    (case sa_BadUnits => k_is)
    (case ga_BadUnits => k_is)
    (case gg_BadUnits => k_is)
    (case eC_BadUnits => k_is)
    (case tC_BadUnits => k_is)
    (case kC_BadUnits => k_is)
    (case hC_BadUnits => k_is)
    (case iC_BadUnits => k_is)
    (case sC_BadUnits => first | rfl | k_is)
    (case tI_BadUnits => k_is)
    (case no_BadUnits_given => k_is)
    (case cl_BadBudget => k_is)
    (case rf_BadBudget => exact rfl)
    (case ty_BadBudget => k_is)
    (case eg_BadBudget => k_is)
    (case ek_BadBudget => k_is)
    (case es_BadBudget => k_is)
    (case ed_BadBudget => k_is)
    (case ea_BadBudget => k_is)
    (case em_BadBudget => k_is)
    (case xL_BadBudget => k_is)
    (case sa_BadBudget => k_is)
    (case ga_BadBudget => k_is)
    (case gg_BadBudget => k_is)
    (case eC_BadBudget => k_is)
    (case tC_BadBudget => k_is)
    (case kC_BadBudget => k_is)
    (case hC_BadBudget => k_is)
    (case iC_BadBudget => k_is)
    (case sC_BadBudget => first | rfl | k_is)
    (case tI_BadBudget => k_is)
    (case no_BadBudget_given => k_is)
    (case cl_BadStep => k_is)
    (case rf_BadStep => exact rfl)
    (case ty_BadStep => k_is)
    (case eg_BadStep => k_is)
    (case ek_BadStep => k_is)
    (case es_BadStep => k_is)
    (case ed_BadStep => k_is)
    (case ea_BadStep => k_is)
    (case em_BadStep => k_is)
    (case xL_BadStep => k_is)
    (case sa_BadStep => k_is)
    (case ga_BadStep => k_is)
    (case gg_BadStep => k_is)
    (case eC_BadStep => k_is)
    (case tC_BadStep => k_is)
    (case kC_BadStep => k_is)
    (case hC_BadStep => k_is)
    (case iC_BadStep => k_is)
    (case sC_BadStep => first | rfl | k_is)
    (case tI_BadStep => k_is)
    (case no_BadStep_given => k_is)
    (case cl_TooMany => k_is)
    (case rf_TooMany => exact rfl)
    (case ty_TooMany => k_is)
    (case eg_TooMany => k_is)
    (case ek_TooMany => k_is)
    (case es_TooMany => k_is)
    (case ed_TooMany => k_is)
    (case ea_TooMany => k_is)
    (case em_TooMany => k_is)
    (case xL_TooMany => k_is)
    (case sa_TooMany => k_is)
    (case ga_TooMany => k_is)
    (case gg_TooMany => k_is)
    (case eC_TooMany => k_is)
    (case tC_TooMany => k_is)
    (case kC_TooMany => k_is)
    (case hC_TooMany => k_is)
    (case iC_TooMany => k_is)
    (case sC_TooMany => first | rfl | k_is)
    (case tI_TooMany => k_is)
    (case no_TooMany_count => k_is)
    (case cl_NoSuch => k_is)
    (case rf_NoSuch => exact rfl)
    (case ty_NoSuch => k_is)
    (case eg_NoSuch => k_is)
    (case ek_NoSuch => k_is)
    (case es_NoSuch => k_is)
    (case ed_NoSuch => k_is)
    (case ea_NoSuch => k_is)
    (case em_NoSuch => k_is)
    (case xL_NoSuch => k_is)
    (case sa_NoSuch => k_is)
    (case ga_NoSuch => k_is)
    (case gg_NoSuch => k_is)
    (case eC_NoSuch => k_is)
    (case tC_NoSuch => k_is)
    (case kC_NoSuch => k_is)
    (case hC_NoSuch => k_is)
    (case iC_NoSuch => k_is)
    (case sC_NoSuch => first | rfl | k_is)
    (case tI_NoSuch => k_is)
    (case no_NoSuch_name => k_is)
    (case x_NothingToUndo => k_exc)
    (case k_NothingToUndo => k_is)
    (case b_NothingToUndo => k_is)
    (case t_NothingToUndo => k_is)
    (case i_NothingToUndo => k_is)
    (case sC_NothingToUndo => first | rfl | k_is)
    (case cl_NothingToUndo => k_is)
    (case rf_NothingToUndo => exact rfl)
    (case ty_NothingToUndo => k_is)
    (case eg_NothingToUndo => k_is)
    (case ek_NothingToUndo => k_is)
    (case es_NothingToUndo => k_is)
    (case ed_NothingToUndo => k_is)
    (case ea_NothingToUndo => k_is)
    (case em_NothingToUndo => k_is)
    (case x_NothingToRedo => k_exc)
    (case k_NothingToRedo => k_is)
    (case b_NothingToRedo => k_is)
    (case t_NothingToRedo => k_is)
    (case i_NothingToRedo => k_is)
    (case sC_NothingToRedo => first | rfl | k_is)
    (case cl_NothingToRedo => k_is)
    (case rf_NothingToRedo => exact rfl)
    (case ty_NothingToRedo => k_is)
    (case eg_NothingToRedo => k_is)
    (case ek_NothingToRedo => k_is)
    (case es_NothingToRedo => k_is)
    (case ed_NothingToRedo => k_is)
    (case ea_NothingToRedo => k_is)
    (case em_NothingToRedo => k_is)
    (case ecn => k_is)
    (case ect => k_is)
    (case ndp => decide)
