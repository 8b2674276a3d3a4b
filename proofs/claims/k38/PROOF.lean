import PyProof.Rows.All
import Wide.All
import OpenK.AllK
import Wide.FinOn
import HandS.ForMost
import HandS.ForExc
import HandS.ExcInit
import HandS.ExcField
import HandS.IsInst
import HandS.Style
import HandS.Flt
import HandS.TupAny
import HandS.Wide
import HandS.Property
import HandS.Gcd
import HandS.Defaults
import HandS.MakeKw
import HandS.MakeKwOnly
import HandS.Small
import HandS.SlotsOwn
import KE.KOpsOwn
import KE.KExcIs
import HandS.Conv
import HandS.SortRule
import HandS.ExcIs
import HandS.ExcValue
import PyProof.ReprRoads
import KE.KDictPairs
import HandS.Walk
import HandS.Text
import HandS.SetKeys
import HandS.Zip
import HandS.StrMore
import HandS.DictComp
import PySem.Challenge.RW_widestkind_k38_patterns_and_value_trees
set_option Elab.async false
set_option linter.all false
set_option maxRecDepth 100000
namespace U
open PySem PySem.Spec PyProof.Rows L2
/-- a module's name that holds a plain value or an object of the written part -/
def MgV (mg : Str → Option Value) (x : Str) (v : V) : Prop := ∃ u, mg x = some u ∧ RelV v u
theorem pe_con_ {X : Cx} {x : Str} {v : V} {pos : Pos} (h : MgV X.mg x v) (hg : Gl X x := by rfl) (hd : (x == ("__debug__" : Str)) = false := by decide) : PE X (.Name x pos) (tC v) := by
  obtain ⟨u, hm, r⟩ := h
  exact pe_glob hg hm r hd
/-- written texts in a tuple of the written part -/
theorem strsV (ss : List Str) (us : List Value) (h : Paired (fun (s : Str) (u : Value) => ∃ t, u = .str s t) ss us) : Vals (ss.map V.str) us := by
  induction h with
  | nil => exact .nil
  | cons a _ ih => exact .cons a ih
theorem exm_self {K : PySem.W.Frag} {S : Addr} (h1 : PySem.W.subIn K (.ref S) (.type "BaseException") = some true) (h2 : PySem.W.isClsIn K S = true) (h3 : PySem.W.typeIn K (.ref S) = some (.type "type")) (h4 : PySem.W.subIn K (.ref S) (.ref S) = some true) :
    PySem.W.exmOne K (.ref S) (.ref S) = some true := by
  have e1 : (PySem.W.subIn K (.ref S) (.type "BaseException") == some true) = true := by rw [h1] <;> rfl
  have e2 : ((PySem.W.clsIn K S).isSome && PySem.W.typeIn K (.ref S) == some (.type "type")) = true := by
    have h2' : (PySem.W.clsIn K S).isSome = true := h2
    rw [h2', h3] <;> rfl
  show (if (PySem.W.subIn K (.ref S) (.type "BaseException") == some true) = true then (if ((PySem.W.clsIn K S).isSome && PySem.W.typeIn K (.ref S) == some (.type "type")) = true then PySem.W.subIn K (.ref S) (.ref S) else none) else none) = some true
  rw [if_pos e1, if_pos e2]
  exact h4
section
variable {X : Cx} {K : PySem.W.Frag}
theorem kOr2 {X : Cx} {f : Value → Value → Sem Value} {r r' : R2} (h : OpR X f r) (e : r = r') : OpR X f r' := e ▸ h
def uAdd {X : Cx} := (op_add (X := X)).or (op_add_str.or op_cat)
def uMul {X : Cx} := op_mul (X := X)
def uLt {X : Cx} := (op_lt (X := X)).or op_lt_str
def uLe {X : Cx} := (op_le (X := X)).or op_le_str
def uGt {X : Cx} := (op_gt (X := X)).or op_gt_str
def uGe {X : Cx} := (op_ge (X := X)).or op_ge_str
def rEqU (K : PySem.W.Frag) : R2 := fun x y H Q => rEq x y H Q ∨ rEqD K x y H Q
def rNeU (K : PySem.W.Frag) : R2 := fun x y H Q => rNe x y H Q ∨ rNeD K x y H Q
theorem uEq (hK : X.K = K) (hu : X.A.units + 64 < cLine) : OpR X (compareOp .Eq) (rEqU K) := by
  subst hK
  exact (op_eq (X := X)).or (op_eqD hu)
theorem uNe (hK : X.K = K) (hu : X.A.units + 64 < cLine) : OpR X (compareOp .NotEq) (rNeU K) := by
  subst hK
  exact (op_ne (X := X)).or (op_neD hu)
def rInSg : R2 := fun x y H Q => ∃ (c : Nat) (z : Str), x = .str ⟨#[c]⟩ ∧ y = .str z ∧ Q (.bl (decide (c ∈ z.cps.toList))) H
def rNotInSg : R2 := fun x y H Q => ∃ (c : Nat) (z : Str), x = .str ⟨#[c]⟩ ∧ y = .str z ∧ Q (.bl (!decide (c ∈ z.cps.toList))) H
def rInU (K : PySem.W.Frag) : R2 := fun x y H Q => rInSg x y H Q ∨ rIn K false x y H Q
def rNotInU (K : PySem.W.Frag) : R2 := fun x y H Q => rNotInSg x y H Q ∨ rIn K true x y H Q
theorem uIn (hK : X.K = K) : OpR X (compareOp .In) (rInU K) := by
  subst hK
  exact (op_in_sign (X := X)).or op_in_seq
theorem uNotIn (hK : X.K = K) : OpR X (compareOp .NotIn) (rNotInU K) := by
  subst hK
  exact (op_notIn_sign (X := X)).or op_notIn_seq
def rSlU (K : PySem.W.Frag) : V → Option Int → Option Int → Hp → VK → Prop := fun x lo hi H Q => rSlS x lo hi H Q ∨ rSlL K x lo hi H Q
theorem uSl (hK : X.K = K) : SlR X (rSlU K) := by
  subst hK
  exact (sl_str (X := X)).or sl_list
def rLenU (K : PySem.W.Frag) : List V → Hp → VK → Prop := fun xs H Q => (∃ z, xs = [.str z] ∧ z.length ≤ sizeLine ∧ Q (.int z.length) H) ∨ ∃ p ys, xs = [.ref p] ∧ (SqL K H p ys ∨ SqT K H p ys) ∧ Q (.int ys.length) H
theorem uLen (hK : X.K = K) : CallR X (.builtin "len") (rLenU K) := by
  subst hK
  exact (call_len_str (X := X)).or call_len_seq
theorem uIx (hK : X.K = K) : IxR X (rIx K) := by
  subst hK
  exact ix_seq
theorem uSum (hK : X.K = K) (hc : X.calm = true) : CallR X (.builtin "sum") (rSum K) := by
  subst hK
  exact cr_sum hc
def call_max3 {X : Cx} (hc : X.calm = true) := call_max3Nu hc
end
theorem ifT {c A B : Prop} [Decidable c] (hc : c) (h : A) : if decide c = true then A else B := by
  rw [decide_eq_true hc, if_pos rfl]
  exact h
theorem ifF {c A B : Prop} [Decidable c] (hc : ¬ c) (h : B) : if decide c = true then A else B := by
  rw [decide_eq_false hc, if_neg Bool.false_ne_true]
  exact h
theorem ifB {c : Bool} {A B : Prop} (b : Bool) (hc : c = b) (h : if b = true then A else B) : if c = true then A else B := by
  rw [hc]
  exact h
theorem ifD {c A B : Prop} [Decidable c] (h1 : c → A) (h2 : ¬ c → B) : if decide c = true then A else B := by
  by_cases h : c
  · exact ifT h (h1 h)
  · exact ifF h (h2 h)
theorem ifBl {c : Bool} {A B : Prop} (h1 : c = true → A) (h2 : c = false → B) : if c = true then A else B := by
  cases c with
  | true => exact iteT (h1 rfl)
  | false => exact iteF (h2 rfl)
theorem le1 (a b : Nat) : (!decide ((⟨#[b]⟩ : Str).cps.toList < (⟨#[a]⟩ : Str).cps.toList)) = decide (a ≤ b) := by
  have e : ((⟨#[b]⟩ : Str).cps.toList < (⟨#[a]⟩ : Str).cps.toList) ↔ b < a := by
    show ([b] : List Nat) < [a] ↔ b < a
    rw [List.cons_lt_cons_iff]
    simp
  by_cases h : b < a
  · rw [decide_eq_true (e.mpr h), decide_eq_false (by omega)] <;> rfl
  · rw [decide_eq_false (fun q => h (e.mp q)), decide_eq_true (by omega)] <;> rfl
theorem sz {n : Nat} (h : n ≤ 100000) : n ≤ sizeLine := Nat.le_trans h (by decide)
theorem szl {n : Nat} (h : n < 100000) : n < sizeLine := Nat.lt_of_lt_of_le h (by decide)
theorem atN {α : Type} {xs : List α} {i : Int} {v : α} (j : Nat) (e : i = (j : Int)) (h : xs[j]? = some v) : atI xs i = some v := by
  rw [e]
  exact atI_nat h
theorem zlen (z : Str) : z.length = z.cps.toList.length := by simp [Str.length]
end U
namespace U
open PySem PySem.Spec PyProof.Rows L2
theorem same_new {H : Hp} {p : Addr} {o : HO} (h : H p = none) : Same H (upd H p o) := fun b u e => by
  rw [upd_ne (ne_of_none e h)]
  exact e
/-- all but what stands at p is as it was -/
def SameBut (p : Addr) (H H' : Hp) : Prop := ∀ b o, b ≠ p → H b = some o → H' b = some o
theorem SameBut.refl (p : Addr) (H : Hp) : SameBut p H H := fun _ _ _ h => h
theorem SameBut.trans {p : Addr} {H H1 H2 : Hp} (a : SameBut p H H1) (b : SameBut p H1 H2) : SameBut p H H2 := fun c o n h => b c o n (a c o n h)
theorem SameBut.of {p : Addr} {H H' : Hp} (a : Same H H') : SameBut p H H' := fun c o _ h => a c o h
theorem SameBut.upd {p : Addr} {H H' : Hp} {o : HO} (a : SameBut p H H') : SameBut p H (upd H' p o) := fun c u n h => by
  rw [upd_ne n]
  exact a c u n h
theorem Same.but {p : Addr} {H H1 H2 : Hp} (a : Same H H1) (b : SameBut p H1 H2) (hp : H p = none) : Same H H2 := fun c o h => b c o (ne_of_none h hp) (a c o h)
theorem SameBut.free {p l : Addr} {H H' : Hp} (a : SameBut p H H') (n : l ≠ p) (h : H' l = none) : H l = none := by
  cases q : H l with
  | none => rfl
  | some o =>
    rw [a l o n q] at h
    cases h
/-- a box of draws: three whole numbers -/
def BoxAt (H : Hp) (p : Addr) (n : Nat) : Prop := ∃ b0 b1 b2 : Int, H p = some (.lst [.int b0, .int b1, .int b2]) ∧ 0 ≤ b0 ∧ 0 ≤ b1 ∧ b1 < 2147483648 ∧ 0 ≤ b2 ∧ b2 ≤ n
theorem BoxAt.some {H : Hp} {p : Addr} {n : Nat} (b : BoxAt H p n) : ∃ o, H p = some o := by
  obtain ⟨b0, b1, b2, h, _⟩ := b
  exact ⟨_, h⟩
theorem BoxAt.mono {H : Hp} {p : Addr} {n m : Nat} (b : BoxAt H p n) (h : n ≤ m) : BoxAt H p m := by
  obtain ⟨b0, b1, b2, e, h0, h1, h2, h3, h4⟩ := b
  exact ⟨b0, b1, b2, e, h0, h1, h2, h3, by omega⟩
theorem BoxAt.same {H H' : Hp} {p : Addr} {n : Nat} (b : BoxAt H p n) (s : Same H H') : BoxAt H' p n := by
  obtain ⟨b0, b1, b2, e, h⟩ := b
  exact ⟨b0, b1, b2, s _ _ e, h⟩
/-- _law_take: one draw -/
def spTake : Sp := fun vs H Q _ => ∃ (p : Addr) (m : Int) (n : Nat), vs = [.ref p, .int m] ∧ BoxAt H p n ∧ n ≤ 100000 ∧ 0 < m ∧ m < 1073741824 ∧ ∀ (d : Int) (H' : Hp), 0 ≤ d → d < m → BoxAt H' p (n + 1) → SameBut p H H' → Q (.int d) H'
def spBox : Sp := fun vs H Q _ => ∃ (c : Int), vs = [.int c] ∧ ∀ (p : Addr) (H' : Hp), H p = none → BoxAt H' p 0 → Same H H' → Q (.ref p) H'
def spCell (K : PySem.W.Frag) : Sp := fun vs H Q _ => ∃ (a : Addr) (ns : List Int) (k : Int), vs = [.ref a, .int k] ∧ SqL K H a (ns.map V.int) ∧ ns.length ≤ 63 ∧ 0 ≤ k ∧ k ≤ 1000 ∧ ∀ (c : Int) (H' : Hp), Same H H' → Q (.int c) H'
theorem cut_map (ns : List Int) (lo hi : Option Int) : ∃ ms : List Int, cutV (ns.map V.int) lo hi = ms.map V.int := by
  refine ⟨(ns.drop (HT.sIx (ns.map V.int).length 0 lo)).take (HT.sIx (ns.map V.int).length (ns.map V.int).length hi - HT.sIx (ns.map V.int).length 0 lo), ?_⟩
  unfold cutV
  rw [List.map_take, List.map_drop]
theorem lst_ix0 {x y z : V} : ([x, y, z] : List V)[0]? = some x := rfl
end U
namespace U
open PySem PySem.Spec PyProof.Rows L2
theorem ifDi {a b : Int} {A B : Prop} (h1 : a = b → A) (h2 : ¬ a = b → B) : if decide (V.int a = V.int b) = true then A else B :=
  ifD (fun h => h1 (V.int.inj h)) (fun h => h2 (fun e => h (congrArg V.int e)))
theorem ifDs {a b : Str} {A B : Prop} (h1 : a = b → A) (h2 : ¬ a = b → B) : if decide (V.str a = V.str b) = true then A else B :=
  ifD (fun h => h1 (V.str.inj h)) (fun h => h2 (fun e => h (congrArg V.str e)))
theorem ifDbi {a b : Int} {A B : Prop} (h1 : ¬ a = b → A) (h2 : a = b → B) : if (!decide (V.int a = V.int b)) = true then A else B := by
  by_cases h : a = b
  · rw [decide_eq_true (congrArg V.int h)]
    exact iteF (h2 h)
  · rw [decide_eq_false (fun q => h (V.int.inj q))]
    exact iteT (h1 h)
theorem ifTi {a b : Int} {A B : Prop} (hc : a = b) (h : A) : if decide (V.int a = V.int b) = true then A else B := ifT (congrArg V.int hc) h
theorem ifFi {a b : Int} {A B : Prop} (hc : ¬ a = b) (h : B) : if decide (V.int a = V.int b) = true then A else B := ifF (fun e => hc (V.int.inj e)) h
end U
namespace U
open PySem PySem.Spec PyProof.Rows L2
theorem forR1 {n : Int} {g : TG} {tb : TS} {D : Ends} {σ : L2.St} {H : Hp} (hn : 0 ≤ n ∧ n ≤ 100000) (Pv : Nat → L2.St → Hp → Prop) (h0 : Pv 0 σ H)
    (hs : ∀ (i : Nat) σ H, (i : Int) < n → Pv i σ H → g (.int (i : Int)) σ H fun σ2 H2 => tb { D with nx := Pv (i + 1), ct := Pv (i + 1), bk := D.nx } σ2 H2) (hd : ∀ σ H, Pv n.toNat σ H → D.nx σ H) :
    ∃ j : Int, [V.int n] = [V.int j] ∧ -(2 ^ 62) ≤ j ∧ j < 2 ^ 62 ∧ ∃ W : Nat → Nat → L2.St → Hp → Prop, (∃ m, W 0 m σ H) ∧ ∀ i m σ H, W i m σ H →
      ((Itr 0 j.toNat).stop i H ∧ D.nx σ H) ∨ ((Itr 0 j.toNat).go i H ∧ ∃ N : L2.St → Hp → Prop, (∀ σ' H', N σ' H' → ∃ m', m' < m ∧ W (i + 1) m' σ' H') ∧ ∀ x H', (Itr 0 j.toNat).yld i H x H' → g x σ H' fun σ2 H2 => tb { D with nx := N, ct := N, bk := D.nx } σ2 H2) :=
  ⟨n, rfl, by omega, by omega, for_range (lo := 0) (n := n.toNat) Pv h0 (fun i σ H hi p => by
    have e0 : (0 : Int) + (i : Int) = (i : Int) := Int.zero_add _
    rw [e0]
    exact hs i σ H (by omega) p) hd⟩
/-- a comprehension over the signs of a text -/
theorem lcStr {z : Str} {g : TG} {tt : TT} {te : TE} {vs : List Nat} {σ : L2.St} {H1 : Hp} {D : Addr} {Qd : Hp → Prop} (Pv : Nat → Hp → Prop) (h0 : Pv 0 (upd H1 D (.lst [])))
    (hs : ∀ i c H, z.cps.toList[i]? = some c → Pv i H → g (.str ⟨#[c]⟩) (wipe σ vs) H fun σ2 H2 => wipe σ2 vs = wipe σ vs ∧ tt σ2 H2 fun b H3 =>
      if b = true then te σ2 H3 fun y H4 => ∃ acc, H4 D = some (.lst acc) ∧ acc.length < sizeLine ∧ Pv (i + 1) (upd H4 D (.lst (acc ++ [y]))) else Pv (i + 1) H3) (hd : ∀ H, Pv z.length H → Qd H) :
    ∃ W : Nat → Nat → Hp → Prop, (∃ m, W 0 m (upd H1 D (.lst []))) ∧ ∀ i m H, W i m H →
      ((Its z).stop i H ∧ Qd H) ∨ ((Its z).go i H ∧ ∃ Nx : Hp → Prop, (∀ H', Nx H' → ∃ m', m' < m ∧ W (i + 1) m' H') ∧ ∀ x H', (Its z).yld i H x H' → g x (wipe σ vs) H' fun σ2 H2 => wipe σ2 vs = wipe σ vs ∧ tt σ2 H2 fun b H3 =>
        if b = true then te σ2 H3 fun y H4 => ∃ acc, H4 D = some (.lst acc) ∧ acc.length < sizeLine ∧ Nx (upd H4 D (.lst (acc ++ [y]))) else Nx H3) := by
  refine ⟨fun i m H => i + m = z.length ∧ Pv i H, ⟨z.length, Nat.zero_add _, h0⟩, ?_⟩
  rintro i m H ⟨hm, p⟩
  by_cases hi : i < z.length
  · refine Or.inr ⟨hi, Pv (i + 1), fun H' q => ⟨m - 1, by omega, by omega, q⟩, ?_⟩
    rintro x H' ⟨rfl, c, hc, rfl⟩
    refine hs i c H' ?_ p
    rw [← hc]
    simp
  · refine Or.inl ⟨Nat.le_of_not_lt hi, hd H ?_⟩
    rw [show z.length = i by omega]
    exact p
/-- written texts as data -/
def strD (ss : List Str) : List PyData := ss.map .str
theorem dpStrs {K : PySem.W.Frag} {H : Hp} : ∀ ss : List Str, DpAll K H (ss.map V.str) (strD ss)
  | [] => .nil
  | s :: r => .cons (.str s) (dpStrs r)
theorem canStrs : ∀ ss : List Str, (∀ s ∈ ss, PyData.strOk s = true) → PyData.canLayAll0 (strD ss) = true
  | [], _ => rfl
  | s :: r, h => by
    show (PyData.strOk s && PyData.canLayAll0 (strD r)) = true
    rw [h s (List.mem_cons_self ..), canStrs r fun t ht => h t (List.mem_cons_of_mem _ ht)] <;> rfl
theorem depthStrs : ∀ ss : List Str, PyData.depthAll (strD ss) = 0
  | [] => rfl
  | s :: r => by
    show max 0 (PyData.depthAll (strD r)) = 0
    rw [depthStrs r] <;> rfl
theorem shStrs (ss : List Str) (h : ∀ s ∈ ss, PyData.strOk s = true) : SeqAt.shaped (.list (strD ss)) = true := by
  show (PyData.canLayAll0 (strD ss) && decide (PyData.depthAll (strD ss) + 1 ≤ 64)) = true
  rw [canStrs ss h, depthStrs] <;> rfl
end U
namespace U
open PySem PySem.Spec PyProof.Rows L2
theorem newF {H H1 : Hp} {p : Addr} {o : HO} (np : H p = none) (h : upd H p o = H1) : Same H H1 ∧ H1 p = some o := by
  subst h
  exact ⟨same_new np, upd_same⟩
theorem updF {H H1 : Hp} {p : Addr} {o : HO} (h : upd H p o = H1) : H1 p = some o ∧ SameBut p H H1 := by
  subst h
  exact ⟨upd_same, (SameBut.refl _ _).upd⟩
theorem atI_words {ss : List Str} {d : Int} {v : V} (h : atI (ss.map V.str) d = some v) (xs : List V) (e : xs = ss.map V.str) : atI xs d = some v := by
  rw [e]
  exact h
end U
namespace U
open PySem PySem.Spec PyProof.Rows L2
theorem forR {n : Nat} {g : TG} {tb : TS} {D : Ends} {σ : L2.St} {H : Hp} (Pv : Nat → L2.St → Hp → Prop) (h0 : Pv 0 σ H)
    (hs : ∀ (i : Nat) σ H, i < n → Pv i σ H → g (.int (i : Int)) σ H fun σ2 H2 => tb { D with nx := Pv (i + 1), ct := Pv (i + 1), bk := D.nx } σ2 H2) (hd : ∀ σ H, Pv n σ H → D.nx σ H) :
    ∃ W : Nat → Nat → L2.St → Hp → Prop, (∃ m, W 0 m σ H) ∧ ∀ i m σ H, W i m σ H →
      ((Itr 0 n).stop i H ∧ D.nx σ H) ∨ ((Itr 0 n).go i H ∧ ∃ N : L2.St → Hp → Prop, (∀ σ' H', N σ' H' → ∃ m', m' < m ∧ W (i + 1) m' σ' H') ∧ ∀ x H', (Itr 0 n).yld i H x H' → g x σ H' fun σ2 H2 => tb { D with nx := N, ct := N, bk := D.nx } σ2 H2) :=
  for_range (lo := 0) (n := n) Pv h0 (fun i σ H hi p => by
    have e0 : (0 : Int) + (i : Int) = (i : Int) := Int.zero_add _
    rw [e0]
    exact hs i σ H hi p) hd
end U
namespace Toy
open PySem L2
--@BARE Ratio
--@CLSV Ratio
--@DICTV _law_takes_of entries
--@DICTV takes entries
--@FALSE scopes_in +13
--@FALSE scopes_in +15
--@FALSE scopes_in +18
--@ITER _law_pattern_of +11 tup
--@ITER _law_takes_of +8 tup
--@ITER are_entries +4 tup
--@ITER inner_numbers +6 tup
--@ITER is_unit +3 tup
--@ITER is_value_shape +5 tup
--@ITER parts_in +6 tup
--@ITER takes +14 tup
--@ITER uses_and_owns +8 tup
--@NEVER Ratio.__init__
--@NEVER parts_in
--@REC _law_odd_of 3
--@REC _law_pattern_of 5
--@REC _law_takes_of 4
--@REC _law_tree_of 4
--@REVT parts_of
--@SLT _law_takes_of
--@SLT fits_shape
--@SLT inner_values
--@SLT parts_in
--@STOP _wall
--@TUPF
--@TUPV is_measure value
--@TUPX _law_odd_of
/-- a written dict of the program: its keys and values -/
def KTab (w : World) (K : PySem.W.Frag) (d : Addr) (kvs : List (Str × V)) : Prop := ∃ es n, KDict K w d es n ∧ PySem.Paired (fun (p : Str × V) (e : DictEntry) => (∃ t, e.key = .str p.1 t) ∧ RelV p.2 e.val) kvs es.toList
def top (i : Nat) : Stmt := PySem.Challenge.pw_widestkind_k38_patterns_and_value_trees.main.body.getD i (.Pass ⟨0, 0, 0, 0⟩)
abbrev s_is_row : Stmt := top 10
abbrev nm_is_row : List Str := ["part"]
theorem sc_is_row : FnScope nm_is_row ["part"] (defScope s_is_row) := ⟨rfl, rfl, rfl, by decide +kernel, rfl, by decide +kernel, by decide +kernel⟩
abbrev s_parts_in : Stmt := top 11
abbrev nm_parts_in : List Str := ["part", "head", "first", "behind", "_", "inner"]
theorem sc_parts_in : FnScope nm_parts_in ["part"] (defScope s_parts_in) := ⟨rfl, rfl, rfl, by decide +kernel, rfl, by decide +kernel, by decide +kernel⟩
abbrev s_parts_of : Stmt := top 12
abbrev nm_parts_of : List Str := ["part", "found", "waiting", "first"]
theorem sc_parts_of : FnScope nm_parts_of ["part"] (defScope s_parts_of) := ⟨rfl, rfl, rfl, by decide +kernel, rfl, by decide +kernel, by decide +kernel⟩
abbrev s_inner_numbers : Stmt := top 13
abbrev nm_inner_numbers : List Str := ["steps", "found", "done", "number", "part", "_"]
theorem sc_inner_numbers : FnScope nm_inner_numbers ["steps"] (defScope s_inner_numbers) := ⟨rfl, rfl, rfl, by decide +kernel, rfl, by decide +kernel, by decide +kernel⟩
abbrev s_is_name : Stmt := top 15
abbrev nm_is_name : List Str := ["factor"]
theorem sc_is_name : FnScope nm_is_name ["factor"] (defScope s_is_name) := ⟨rfl, rfl, rfl, by decide +kernel, rfl, by decide +kernel, by decide +kernel⟩
abbrev s_uses_and_owns : Stmt := top 17
abbrev nm_uses_and_owns : List Str := ["kind", "uses", "owns", "waiting", "part", "head", "factor", "_", "label", "inner"]
theorem sc_uses_and_owns : FnScope nm_uses_and_owns ["kind"] (defScope s_uses_and_owns) := ⟨rfl, rfl, rfl, by decide +kernel, rfl, by decide +kernel, by decide +kernel⟩
abbrev s_uses_in : Stmt := top 18
abbrev nm_uses_in : List Str := ["kind"]
theorem sc_uses_in : FnScope nm_uses_in ["kind"] (defScope s_uses_in) := ⟨rfl, rfl, rfl, by decide +kernel, rfl, by decide +kernel, by decide +kernel⟩
abbrev s_run_end : Stmt := top 24
abbrev nm_run_end : List Str := ["text", "begin", "signs", "most", "stretch"]
theorem sc_run_end : FnScope nm_run_end ["text", "begin", "signs", "most"] (defScope s_run_end) := ⟨rfl, rfl, rfl, by decide +kernel, rfl, by decide +kernel, by decide +kernel⟩
abbrev s_word_end : Stmt := top 25
abbrev nm_word_end : List Str := ["text", "begin", "letters"]
theorem sc_word_end : FnScope nm_word_end ["text", "begin"] (defScope s_word_end) := ⟨rfl, rfl, rfl, by decide +kernel, rfl, by decide +kernel, by decide +kernel⟩
abbrev s_tag_end : Stmt := top 26
abbrev nm_tag_end : List Str := ["text", "begin"]
theorem sc_tag_end : FnScope nm_tag_end ["text", "begin"] (defScope s_tag_end) := ⟨rfl, rfl, rfl, by decide +kernel, rfl, by decide +kernel, by decide +kernel⟩
abbrev s_is_word : Stmt := top 27
abbrev nm_is_word : List Str := ["value"]
theorem sc_is_word : FnScope nm_is_word ["value"] (defScope s_is_word) := ⟨rfl, rfl, rfl, by decide +kernel, rfl, by decide +kernel, by decide +kernel⟩
abbrev s_is_plain_word : Stmt := top 28
abbrev nm_is_plain_word : List Str := ["value"]
theorem sc_is_plain_word : FnScope nm_is_plain_word ["value"] (defScope s_is_plain_word) := ⟨rfl, rfl, rfl, by decide +kernel, rfl, by decide +kernel, by decide +kernel⟩
abbrev s_is_tag : Stmt := top 29
abbrev nm_is_tag : List Str := ["value"]
theorem sc_is_tag : FnScope nm_is_tag ["value"] (defScope s_is_tag) := ⟨rfl, rfl, rfl, by decide +kernel, rfl, by decide +kernel, by decide +kernel⟩
abbrev s_is_kind_name : Stmt := top 30
abbrev nm_is_kind_name : List Str := ["value"]
theorem sc_is_kind_name : FnScope nm_is_kind_name ["value"] (defScope s_is_kind_name) := ⟨rfl, rfl, rfl, by decide +kernel, rfl, by decide +kernel, by decide +kernel⟩
abbrev s_is_integer : Stmt := top 31
abbrev nm_is_integer : List Str := ["value"]
theorem sc_is_integer : FnScope nm_is_integer ["value"] (defScope s_is_integer) := ⟨rfl, rfl, rfl, by decide +kernel, rfl, by decide +kernel, by decide +kernel⟩
abbrev s_Ratio_init : Stmt := inClass (top 33) 0
abbrev nm_Ratio_init : List Str := ["self", "top", "bottom", "common"]
theorem sc_Ratio_init : FnScope nm_Ratio_init ["self", "top", "bottom"] (defScope s_Ratio_init) := ⟨rfl, rfl, rfl, by decide +kernel, rfl, by decide +kernel, by decide +kernel⟩
abbrev s_is_factor : Stmt := top 36
abbrev nm_is_factor : List Str := ["value"]
theorem sc_is_factor : FnScope nm_is_factor ["value"] (defScope s_is_factor) := ⟨rfl, rfl, rfl, by decide +kernel, rfl, by decide +kernel, by decide +kernel⟩
abbrev s_is_measure : Stmt := top 37
abbrev nm_is_measure : List Str := ["value", "last", "item", "factor", "number"]
theorem sc_is_measure : FnScope nm_is_measure ["value"] (defScope s_is_measure) := ⟨rfl, rfl, rfl, by decide +kernel, rfl, by decide +kernel, by decide +kernel⟩
abbrev s_first_stray : Stmt := top 39
abbrev nm_first_stray : List Str := ["uses", "known", "name", "use"]
theorem sc_first_stray : FnScope nm_first_stray ["uses"] (defScope s_first_stray) := ⟨rfl, rfl, rfl, by decide +kernel, rfl, by decide +kernel, by decide +kernel⟩
abbrev s_row_kinds : Stmt := top 41
abbrev nm_row_kinds : List Str := ["head", "value", "found", "last", "entry", "label"]
theorem sc_row_kinds : FnScope nm_row_kinds ["head", "value"] (defScope s_row_kinds) := ⟨rfl, rfl, rfl, by decide +kernel, rfl, by decide +kernel, by decide +kernel⟩
abbrev s_inner_values : Stmt := top 42
abbrev nm_inner_values : List Str := ["value", "head"]
theorem sc_inner_values : FnScope nm_inner_values ["value"] (defScope s_inner_values) := ⟨rfl, rfl, rfl, by decide +kernel, rfl, by decide +kernel, by decide +kernel⟩
abbrev s_is_built_kind : Stmt := top 43
abbrev nm_is_built_kind : List Str := ["value", "waiting", "inner"]
theorem sc_is_built_kind : FnScope nm_is_built_kind ["value"] (defScope s_is_built_kind) := ⟨rfl, rfl, rfl, by decide +kernel, rfl, by decide +kernel, by decide +kernel⟩
abbrev s_is_kind : Stmt := top 44
abbrev nm_is_kind : List Str := ["value"]
theorem sc_is_kind : FnScope nm_is_kind ["value"] (defScope s_is_kind) := ⟨rfl, rfl, rfl, by decide +kernel, rfl, by decide +kernel, by decide +kernel⟩
abbrev s_is_unit : Stmt := top 47
abbrev nm_is_unit : List Str := ["value", "factor", "_"]
theorem sc_is_unit : FnScope nm_is_unit ["value"] (defScope s_is_unit) := ⟨rfl, rfl, rfl, by decide +kernel, rfl, by decide +kernel, by decide +kernel⟩
abbrev s_are_entries : Stmt := top 48
abbrev nm_are_entries : List Str := ["value", "labels", "entry"]
theorem sc_are_entries : FnScope nm_are_entries ["value"] (defScope s_are_entries) := ⟨rfl, rfl, rfl, by decide +kernel, rfl, by decide +kernel, by decide +kernel⟩
abbrev s_are_rows : Stmt := top 49
abbrev nm_are_rows : List Str := ["value", "row"]
theorem sc_are_rows : FnScope nm_are_rows ["value"] (defScope s_are_rows) := ⟨rfl, rfl, rfl, by decide +kernel, rfl, by decide +kernel, by decide +kernel⟩
abbrev s_is_of : Stmt := top 50
abbrev nm_is_of : List Str := ["value", "sort"]
theorem sc_is_of : FnScope nm_is_of ["value", "sort"] (defScope s_is_of) := ⟨rfl, rfl, rfl, by decide +kernel, rfl, by decide +kernel, by decide +kernel⟩
abbrev s_fits_shape : Stmt := top 51
abbrev nm_fits_shape : List Str := ["value", "shape", "item", "sort"]
theorem sc_fits_shape : FnScope nm_fits_shape ["value", "shape"] (defScope s_fits_shape) := ⟨rfl, rfl, rfl, by decide +kernel, rfl, by decide +kernel, by decide +kernel⟩
abbrev s_shaped : Stmt := top 52
abbrev nm_shaped : List Str := ["value", "patterns", "shape", "row"]
theorem sc_shaped : FnScope nm_shaped ["value", "patterns"] (defScope s_shaped) := ⟨rfl, rfl, rfl, by decide +kernel, rfl, by decide +kernel, by decide +kernel⟩
abbrev s_is_tree : Stmt := top 53
abbrev nm_is_tree : List Str := ["value", "waiting", "inner"]
theorem sc_is_tree : FnScope nm_is_tree ["value"] (defScope s_is_tree) := ⟨rfl, rfl, rfl, by decide +kernel, rfl, by decide +kernel, by decide +kernel⟩
abbrev s_is_pattern : Stmt := top 54
abbrev nm_is_pattern : List Str := ["value", "names", "waiting", "first", "inner"]
theorem sc_is_pattern : FnScope nm_is_pattern ["value"] (defScope s_is_pattern) := ⟨rfl, rfl, rfl, by decide +kernel, rfl, by decide +kernel, by decide +kernel⟩
abbrev s_scopes_in : Stmt := top 56
abbrev nm_scopes_in : List Str := ["steps", "inner", "scopes", "number", "part", "head", "scope", "within", "one", "bound", "_"]
theorem sc_scopes_in : FnScope nm_scopes_in ["steps", "inner"] (defScope s_scopes_in) := ⟨rfl, rfl, rfl, by decide +kernel, rfl, by decide +kernel, by decide +kernel⟩
abbrev s_marks_in : Stmt := top 57
abbrev nm_marks_in : List Str := ["steps", "inner", "scopes", "part", "scope"]
theorem sc_marks_in : FnScope nm_marks_in ["steps", "inner"] (defScope s_marks_in) := ⟨rfl, rfl, rfl, by decide +kernel, rfl, by decide +kernel, by decide +kernel⟩
abbrev s_binder_marks : Stmt := top 58
abbrev nm_binder_marks : List Str := ["tree", "steps"]
theorem sc_binder_marks : FnScope nm_binder_marks ["tree"] (defScope s_binder_marks) := ⟨rfl, rfl, rfl, by decide +kernel, rfl, by decide +kernel, by decide +kernel⟩
abbrev s_binder_numbers : Stmt := top 59
abbrev nm_binder_numbers : List Str := ["tree", "mark"]
theorem sc_binder_numbers : FnScope nm_binder_numbers ["tree"] (defScope s_binder_numbers) := ⟨rfl, rfl, rfl, by decide +kernel, rfl, by decide +kernel, by decide +kernel⟩
abbrev s_takes : Stmt := top 61
abbrev nm_takes : List Str := ["pattern", "tree", "waiting", "one", "value", "entries", "label", "inner"]
theorem sc_takes : FnScope nm_takes ["pattern", "tree"] (defScope s_takes) := ⟨rfl, rfl, rfl, by decide +kernel, rfl, by decide +kernel, by decide +kernel⟩
abbrev s_is_value_shape : Stmt := top 62
abbrev nm_is_value_shape : List Str := ["tree", "waiting", "part", "_", "inner"]
theorem sc_is_value_shape : FnScope nm_is_value_shape ["tree"] (defScope s_is_value_shape) := ⟨rfl, rfl, rfl, by decide +kernel, rfl, by decide +kernel, by decide +kernel⟩
abbrev s_is_value_tree : Stmt := top 63
abbrev nm_is_value_tree : List Str := ["value", "part", "binder"]
theorem sc_is_value_tree : FnScope nm_is_value_tree ["value"] (defScope s_is_value_tree) := ⟨rfl, rfl, rfl, by decide +kernel, rfl, by decide +kernel, by decide +kernel⟩
abbrev s_law_bag : Stmt := top 65
abbrev nm_law_bag : List Str := ["cell"]
theorem sc_law_bag : FnScope nm_law_bag ["cell"] (defScope s_law_bag) := ⟨rfl, rfl, rfl, by decide +kernel, rfl, by decide +kernel, by decide +kernel⟩
abbrev s_law_draw : Stmt := top 66
abbrev nm_law_draw : List Str := ["pool", "limit", "drawn", "mixed"]
theorem sc_law_draw : FnScope nm_law_draw ["pool", "limit"] (defScope s_law_draw) := ⟨rfl, rfl, rfl, by decide +kernel, rfl, by decide +kernel, by decide +kernel⟩
abbrev s_law_at : Stmt := top 67
abbrev nm_law_at : List Str := ["script", "k"]
theorem sc_law_at : FnScope nm_law_at ["script", "k"] (defScope s_law_at) := ⟨rfl, rfl, rfl, by decide +kernel, rfl, by decide +kernel, by decide +kernel⟩
abbrev s_law_tree_of : Stmt := top 68
abbrev nm_law_tree_of : List Str := ["pool", "deep", "which", "body", "labels", "label"]
theorem sc_law_tree_of : FnScope nm_law_tree_of ["pool", "deep"] (defScope s_law_tree_of) := ⟨rfl, rfl, rfl, by decide +kernel, rfl, by decide +kernel, by decide +kernel⟩
abbrev s_law_odd_of : Stmt := top 69
abbrev nm_law_odd_of : List Str := ["pool", "deep", "menu", "one", "inside"]
theorem sc_law_odd_of : FnScope nm_law_odd_of ["pool", "deep"] (defScope s_law_odd_of) := ⟨rfl, rfl, rfl, by decide +kernel, rfl, by decide +kernel, by decide +kernel⟩
abbrev s_law_pattern_of : Stmt := top 70
abbrev nm_law_pattern_of : List Str := ["pool", "tree", "words", "which", "tag", "entries", "label", "item"]
theorem sc_law_pattern_of : FnScope nm_law_pattern_of ["pool", "tree", "words"] (defScope s_law_pattern_of) := ⟨rfl, rfl, rfl, by decide +kernel, rfl, by decide +kernel, by decide +kernel⟩
abbrev s_law_takes_of : Stmt := top 71
abbrev nm_law_takes_of : List Str := ["pattern", "value", "entries", "label", "other"]
theorem sc_law_takes_of : FnScope nm_law_takes_of ["pattern", "value"] (defScope s_law_takes_of) := ⟨rfl, rfl, rfl, by decide +kernel, rfl, by decide +kernel, by decide +kernel⟩
abbrev s_law : Stmt := top 72
abbrev nm_law : List Str := ["script", "cell", "pool", "tree", "odd", "turn", "pattern", "due", "answer"]
theorem sc_law : FnScope nm_law ["script"] (defScope s_law) := ⟨rfl, rfl, rfl, by decide +kernel, rfl, by decide +kernel, by decide +kernel⟩
structure Ad where
  (a_is_row a_parts_in a_parts_of a_inner_numbers a_is_name a_uses_and_owns a_uses_in a_run_end a_word_end a_tag_end a_is_word a_is_plain_word a_is_tag a_is_kind_name a_is_integer a_Ratio_init a_is_factor a_is_measure a_first_stray a_row_kinds a_inner_values a_is_built_kind a_is_kind a_is_unit a_are_entries a_are_rows a_is_of a_fits_shape a_shaped a_is_tree a_is_pattern a_scopes_in a_marks_in a_binder_marks a_binder_numbers a_takes a_is_value_shape a_is_value_tree a_law_bag a_law_draw a_law_at a_law_tree_of a_law_odd_of a_law_pattern_of a_law_takes_of a_law : Addr)
  (fd_is_row fd_parts_in fd_parts_of fd_inner_numbers fd_is_name fd_uses_and_owns fd_uses_in fd_run_end fd_word_end fd_tag_end fd_is_word fd_is_plain_word fd_is_tag fd_is_kind_name fd_is_integer fd_Ratio_init fd_is_factor fd_is_measure fd_first_stray fd_row_kinds fd_inner_values fd_is_built_kind fd_is_kind fd_is_unit fd_are_entries fd_are_rows fd_is_of fd_fits_shape fd_shaped fd_is_tree fd_is_pattern fd_scopes_in fd_marks_in fd_binder_marks fd_binder_numbers fd_takes fd_is_value_shape fd_is_value_tree fd_law_bag fd_law_draw fd_law_at fd_law_tree_of fd_law_odd_of fd_law_pattern_of fd_law_takes_of fd_law : FuncData)
  (a_TREES a_PATTERNS a_SPANS a_LEAVES a_OWN_WORDS a_SIGNS : Addr)
  (a_TREES_0 a_TREES_1 a_TREES_2 a_TREES_3 a_TREES_4 a_TREES_5 a_TREES_6 a_TREES_7 a_TREES_8 a_TREES_9 a_TREES_10 a_TREES_11 a_TREES_12 a_TREES_13 a_TREES_14 : Addr)
  (a_PATTERNS_0 a_PATTERNS_1 a_PATTERNS_2 a_PATTERNS_3 : Addr)
  (a_SPANS_0 a_SPANS_1 a_SPANS_2 a_SPANS_3 a_SPANS_4 a_SPANS_5 a_SPANS_6 a_SPANS_7 a_SPANS_8 a_SPANS_9 a_SPANS_10 a_SPANS_11 a_SPANS_12 : Addr)
  (c_KindError c_ByZero c_Ratio : Addr)
def kv_TREES (A : Ad) : List (Str × V) := [(("number" : Str), V.ref A.a_TREES_0), (("name" : Str), V.ref A.a_TREES_1), (("fail" : Str), V.ref A.a_TREES_2), (("fn" : Str), V.ref A.a_TREES_3), (("call" : Str), V.ref A.a_TREES_4), (("let" : Str), V.ref A.a_TREES_5), (("rec" : Str), V.ref A.a_TREES_6), (("record" : Str), V.ref A.a_TREES_7), (("with" : Str), V.ref A.a_TREES_8), (("field" : Str), V.ref A.a_TREES_9), (("tag" : Str), V.ref A.a_TREES_10), (("match" : Str), V.ref A.a_TREES_11), (("op" : Str), V.ref A.a_TREES_12), (("told" : Str), V.ref A.a_TREES_13), (("macro" : Str), V.ref A.a_TREES_14)]
def kv_PATTERNS (A : Ad) : List (Str × V) := [(("any" : Str), V.ref A.a_PATTERNS_0), (("bind" : Str), V.ref A.a_PATTERNS_1), (("tag" : Str), V.ref A.a_PATTERNS_2), (("record" : Str), V.ref A.a_PATTERNS_3)]
def kv_SPANS (A : Ad) : List (Str × V) := [(("number" : Str), V.ref A.a_SPANS_0), (("name" : Str), V.ref A.a_SPANS_1), (("fail" : Str), V.ref A.a_SPANS_2), (("any" : Str), V.ref A.a_SPANS_3), (("bind" : Str), V.ref A.a_SPANS_4), (("fn" : Str), V.ref A.a_SPANS_5), (("call" : Str), V.ref A.a_SPANS_6), (("let" : Str), V.ref A.a_SPANS_7), (("rec" : Str), V.ref A.a_SPANS_8), (("field" : Str), V.ref A.a_SPANS_9), (("tag" : Str), V.ref A.a_SPANS_10), (("op" : Str), V.ref A.a_SPANS_11), (("told" : Str), V.ref A.a_SPANS_12)]
def kv_LEAVES (A : Ad) : List (Str × V) := [(("number" : Str), (V.bl true)), (("name" : Str), (V.bl true)), (("fail" : Str), (V.bl true)), (("any" : Str), (V.bl true)), (("bind" : Str), (V.bl true))]
def kv_OWN_WORDS (A : Ad) : List (Str × V) := [(("fn" : Str), (V.bl true)), (("let" : Str), (V.bl true)), (("in" : Str), (V.bl true)), (("rec" : Str), (V.bl true)), (("match" : Str), (V.bl true)), (("with" : Str), (V.bl true)), (("fail" : Str), (V.bl true)), (("num" : Str), (V.bl true))]
structure Top (w : World) (K : PySem.W.Frag) (mg : Str → Option Value) (A : Ad) : Prop where
  F_is_row : Fun K "is_row" "is_row" s_is_row A.a_is_row A.fd_is_row
  b_is_row : Binds K A.fd_is_row ["part"] []
  m_is_row : mg "is_row" = some (.ref A.a_is_row)
  F_parts_in : Fun K "parts_in" "parts_in" s_parts_in A.a_parts_in A.fd_parts_in
  b_parts_in : Binds K A.fd_parts_in ["part"] []
  m_parts_in : mg "parts_in" = some (.ref A.a_parts_in)
  F_parts_of : Fun K "parts_of" "parts_of" s_parts_of A.a_parts_of A.fd_parts_of
  b_parts_of : Binds K A.fd_parts_of ["part"] []
  m_parts_of : mg "parts_of" = some (.ref A.a_parts_of)
  F_inner_numbers : Fun K "inner_numbers" "inner_numbers" s_inner_numbers A.a_inner_numbers A.fd_inner_numbers
  b_inner_numbers : Binds K A.fd_inner_numbers ["steps"] []
  m_inner_numbers : mg "inner_numbers" = some (.ref A.a_inner_numbers)
  F_is_name : Fun K "is_name" "is_name" s_is_name A.a_is_name A.fd_is_name
  b_is_name : Binds K A.fd_is_name ["factor"] []
  m_is_name : mg "is_name" = some (.ref A.a_is_name)
  F_uses_and_owns : Fun K "uses_and_owns" "uses_and_owns" s_uses_and_owns A.a_uses_and_owns A.fd_uses_and_owns
  b_uses_and_owns : Binds K A.fd_uses_and_owns ["kind"] []
  m_uses_and_owns : mg "uses_and_owns" = some (.ref A.a_uses_and_owns)
  F_uses_in : Fun K "uses_in" "uses_in" s_uses_in A.a_uses_in A.fd_uses_in
  b_uses_in : Binds K A.fd_uses_in ["kind"] []
  m_uses_in : mg "uses_in" = some (.ref A.a_uses_in)
  F_run_end : Fun K "run_end" "run_end" s_run_end A.a_run_end A.fd_run_end
  b_run_end : Binds K A.fd_run_end ["text", "begin", "signs", "most"] []
  m_run_end : mg "run_end" = some (.ref A.a_run_end)
  F_word_end : Fun K "word_end" "word_end" s_word_end A.a_word_end A.fd_word_end
  b_word_end : Binds K A.fd_word_end ["text", "begin"] []
  m_word_end : mg "word_end" = some (.ref A.a_word_end)
  F_tag_end : Fun K "tag_end" "tag_end" s_tag_end A.a_tag_end A.fd_tag_end
  b_tag_end : Binds K A.fd_tag_end ["text", "begin"] []
  m_tag_end : mg "tag_end" = some (.ref A.a_tag_end)
  F_is_word : Fun K "is_word" "is_word" s_is_word A.a_is_word A.fd_is_word
  b_is_word : Binds K A.fd_is_word ["value"] []
  m_is_word : mg "is_word" = some (.ref A.a_is_word)
  F_is_plain_word : Fun K "is_plain_word" "is_plain_word" s_is_plain_word A.a_is_plain_word A.fd_is_plain_word
  b_is_plain_word : Binds K A.fd_is_plain_word ["value"] []
  m_is_plain_word : mg "is_plain_word" = some (.ref A.a_is_plain_word)
  F_is_tag : Fun K "is_tag" "is_tag" s_is_tag A.a_is_tag A.fd_is_tag
  b_is_tag : Binds K A.fd_is_tag ["value"] []
  m_is_tag : mg "is_tag" = some (.ref A.a_is_tag)
  F_is_kind_name : Fun K "is_kind_name" "is_kind_name" s_is_kind_name A.a_is_kind_name A.fd_is_kind_name
  b_is_kind_name : Binds K A.fd_is_kind_name ["value"] []
  m_is_kind_name : mg "is_kind_name" = some (.ref A.a_is_kind_name)
  F_is_integer : Fun K "is_integer" "is_integer" s_is_integer A.a_is_integer A.fd_is_integer
  b_is_integer : Binds K A.fd_is_integer ["value"] []
  m_is_integer : mg "is_integer" = some (.ref A.a_is_integer)
  F_Ratio_init : FunD K "__init__" "Ratio.__init__" (defArgs s_Ratio_init) (defBody s_Ratio_init) (defScope s_Ratio_init) [.int 1] [] A.a_Ratio_init A.fd_Ratio_init
  b_Ratio_init : Binds K A.fd_Ratio_init ["self", "top", "bottom"] []
  F_is_factor : Fun K "is_factor" "is_factor" s_is_factor A.a_is_factor A.fd_is_factor
  b_is_factor : Binds K A.fd_is_factor ["value"] []
  m_is_factor : mg "is_factor" = some (.ref A.a_is_factor)
  F_is_measure : Fun K "is_measure" "is_measure" s_is_measure A.a_is_measure A.fd_is_measure
  b_is_measure : Binds K A.fd_is_measure ["value"] []
  m_is_measure : mg "is_measure" = some (.ref A.a_is_measure)
  F_first_stray : Fun K "first_stray" "first_stray" s_first_stray A.a_first_stray A.fd_first_stray
  b_first_stray : Binds K A.fd_first_stray ["uses"] []
  m_first_stray : mg "first_stray" = some (.ref A.a_first_stray)
  F_row_kinds : Fun K "row_kinds" "row_kinds" s_row_kinds A.a_row_kinds A.fd_row_kinds
  b_row_kinds : Binds K A.fd_row_kinds ["head", "value"] []
  m_row_kinds : mg "row_kinds" = some (.ref A.a_row_kinds)
  F_inner_values : Fun K "inner_values" "inner_values" s_inner_values A.a_inner_values A.fd_inner_values
  b_inner_values : Binds K A.fd_inner_values ["value"] []
  m_inner_values : mg "inner_values" = some (.ref A.a_inner_values)
  F_is_built_kind : Fun K "is_built_kind" "is_built_kind" s_is_built_kind A.a_is_built_kind A.fd_is_built_kind
  b_is_built_kind : Binds K A.fd_is_built_kind ["value"] []
  m_is_built_kind : mg "is_built_kind" = some (.ref A.a_is_built_kind)
  F_is_kind : Fun K "is_kind" "is_kind" s_is_kind A.a_is_kind A.fd_is_kind
  b_is_kind : Binds K A.fd_is_kind ["value"] []
  m_is_kind : mg "is_kind" = some (.ref A.a_is_kind)
  F_is_unit : Fun K "is_unit" "is_unit" s_is_unit A.a_is_unit A.fd_is_unit
  b_is_unit : Binds K A.fd_is_unit ["value"] []
  m_is_unit : mg "is_unit" = some (.ref A.a_is_unit)
  F_are_entries : Fun K "are_entries" "are_entries" s_are_entries A.a_are_entries A.fd_are_entries
  b_are_entries : Binds K A.fd_are_entries ["value"] []
  m_are_entries : mg "are_entries" = some (.ref A.a_are_entries)
  F_are_rows : Fun K "are_rows" "are_rows" s_are_rows A.a_are_rows A.fd_are_rows
  b_are_rows : Binds K A.fd_are_rows ["value"] []
  m_are_rows : mg "are_rows" = some (.ref A.a_are_rows)
  F_is_of : Fun K "is_of" "is_of" s_is_of A.a_is_of A.fd_is_of
  b_is_of : Binds K A.fd_is_of ["value", "sort"] []
  m_is_of : mg "is_of" = some (.ref A.a_is_of)
  F_fits_shape : Fun K "fits_shape" "fits_shape" s_fits_shape A.a_fits_shape A.fd_fits_shape
  b_fits_shape : Binds K A.fd_fits_shape ["value", "shape"] []
  m_fits_shape : mg "fits_shape" = some (.ref A.a_fits_shape)
  F_shaped : Fun K "shaped" "shaped" s_shaped A.a_shaped A.fd_shaped
  b_shaped : Binds K A.fd_shaped ["value", "patterns"] []
  m_shaped : mg "shaped" = some (.ref A.a_shaped)
  F_is_tree : Fun K "is_tree" "is_tree" s_is_tree A.a_is_tree A.fd_is_tree
  b_is_tree : Binds K A.fd_is_tree ["value"] []
  m_is_tree : mg "is_tree" = some (.ref A.a_is_tree)
  F_is_pattern : Fun K "is_pattern" "is_pattern" s_is_pattern A.a_is_pattern A.fd_is_pattern
  b_is_pattern : Binds K A.fd_is_pattern ["value"] []
  m_is_pattern : mg "is_pattern" = some (.ref A.a_is_pattern)
  F_scopes_in : Fun K "scopes_in" "scopes_in" s_scopes_in A.a_scopes_in A.fd_scopes_in
  b_scopes_in : Binds K A.fd_scopes_in ["steps", "inner"] []
  m_scopes_in : mg "scopes_in" = some (.ref A.a_scopes_in)
  F_marks_in : Fun K "marks_in" "marks_in" s_marks_in A.a_marks_in A.fd_marks_in
  b_marks_in : Binds K A.fd_marks_in ["steps", "inner"] []
  m_marks_in : mg "marks_in" = some (.ref A.a_marks_in)
  F_binder_marks : Fun K "binder_marks" "binder_marks" s_binder_marks A.a_binder_marks A.fd_binder_marks
  b_binder_marks : Binds K A.fd_binder_marks ["tree"] []
  m_binder_marks : mg "binder_marks" = some (.ref A.a_binder_marks)
  F_binder_numbers : Fun K "binder_numbers" "binder_numbers" s_binder_numbers A.a_binder_numbers A.fd_binder_numbers
  b_binder_numbers : Binds K A.fd_binder_numbers ["tree"] []
  m_binder_numbers : mg "binder_numbers" = some (.ref A.a_binder_numbers)
  F_takes : Fun K "takes" "takes" s_takes A.a_takes A.fd_takes
  b_takes : Binds K A.fd_takes ["pattern", "tree"] []
  m_takes : mg "takes" = some (.ref A.a_takes)
  F_is_value_shape : Fun K "is_value_shape" "is_value_shape" s_is_value_shape A.a_is_value_shape A.fd_is_value_shape
  b_is_value_shape : Binds K A.fd_is_value_shape ["tree"] []
  m_is_value_shape : mg "is_value_shape" = some (.ref A.a_is_value_shape)
  F_is_value_tree : Fun K "is_value_tree" "is_value_tree" s_is_value_tree A.a_is_value_tree A.fd_is_value_tree
  b_is_value_tree : Binds K A.fd_is_value_tree ["value"] []
  m_is_value_tree : mg "is_value_tree" = some (.ref A.a_is_value_tree)
  F_law_bag : Fun K "_law_bag" "_law_bag" s_law_bag A.a_law_bag A.fd_law_bag
  b_law_bag : Binds K A.fd_law_bag ["cell"] []
  m_law_bag : mg "_law_bag" = some (.ref A.a_law_bag)
  F_law_draw : Fun K "_law_draw" "_law_draw" s_law_draw A.a_law_draw A.fd_law_draw
  b_law_draw : Binds K A.fd_law_draw ["pool", "limit"] []
  m_law_draw : mg "_law_draw" = some (.ref A.a_law_draw)
  F_law_at : Fun K "_law_at" "_law_at" s_law_at A.a_law_at A.fd_law_at
  b_law_at : Binds K A.fd_law_at ["script", "k"] []
  m_law_at : mg "_law_at" = some (.ref A.a_law_at)
  F_law_tree_of : Fun K "_law_tree_of" "_law_tree_of" s_law_tree_of A.a_law_tree_of A.fd_law_tree_of
  b_law_tree_of : Binds K A.fd_law_tree_of ["pool", "deep"] []
  m_law_tree_of : mg "_law_tree_of" = some (.ref A.a_law_tree_of)
  F_law_odd_of : Fun K "_law_odd_of" "_law_odd_of" s_law_odd_of A.a_law_odd_of A.fd_law_odd_of
  b_law_odd_of : Binds K A.fd_law_odd_of ["pool", "deep"] []
  m_law_odd_of : mg "_law_odd_of" = some (.ref A.a_law_odd_of)
  F_law_pattern_of : Fun K "_law_pattern_of" "_law_pattern_of" s_law_pattern_of A.a_law_pattern_of A.fd_law_pattern_of
  b_law_pattern_of : Binds K A.fd_law_pattern_of ["pool", "tree", "words"] []
  m_law_pattern_of : mg "_law_pattern_of" = some (.ref A.a_law_pattern_of)
  F_law_takes_of : Fun K "_law_takes_of" "_law_takes_of" s_law_takes_of A.a_law_takes_of A.fd_law_takes_of
  b_law_takes_of : Binds K A.fd_law_takes_of ["pattern", "value"] []
  m_law_takes_of : mg "_law_takes_of" = some (.ref A.a_law_takes_of)
  F_law : Fun K "law" "law" s_law A.a_law A.fd_law
  b_law : Binds K A.fd_law ["script"] []
  m_law : mg "law" = some (.ref A.a_law)
  n_any : mg "any" = none
  n_bool : mg "bool" = none
  n_dict : mg "dict" = none
  n_enumerate : mg "enumerate" = none
  n_int : mg "int" = none
  n_isinstance : mg "isinstance" = none
  n_len : mg "len" = none
  n_list : mg "list" = none
  n_range : mg "range" = none
  n_set : mg "set" = none
  n_str : mg "str" = none
  n_tuple : mg "tuple" = none
  n_zip : mg "zip" = none
  m_TREES : U.MgV mg "TREES" (.ref A.a_TREES)
  q_TREES : KTab w K A.a_TREES (kv_TREES A)
  q_TREES_0 : ∀ H, SqT K H A.a_TREES_0 ((["count", "unit"] : List Str).map V.str)
  q_TREES_1 : ∀ H, SqT K H A.a_TREES_1 ((["word"] : List Str).map V.str)
  q_TREES_2 : ∀ H, SqT K H A.a_TREES_2 ((["word"] : List Str).map V.str)
  q_TREES_3 : ∀ H, SqT K H A.a_TREES_3 ((["word", "tree"] : List Str).map V.str)
  q_TREES_4 : ∀ H, SqT K H A.a_TREES_4 ((["tree", "tree"] : List Str).map V.str)
  q_TREES_5 : ∀ H, SqT K H A.a_TREES_5 ((["word", "tree", "tree"] : List Str).map V.str)
  q_TREES_6 : ∀ H, SqT K H A.a_TREES_6 ((["word", "word", "tree", "tree"] : List Str).map V.str)
  q_TREES_7 : ∀ H, SqT K H A.a_TREES_7 ((["entries"] : List Str).map V.str)
  q_TREES_8 : ∀ H, SqT K H A.a_TREES_8 ((["tree", "word", "tree"] : List Str).map V.str)
  q_TREES_9 : ∀ H, SqT K H A.a_TREES_9 ((["tree", "word"] : List Str).map V.str)
  q_TREES_10 : ∀ H, SqT K H A.a_TREES_10 ((["tag", "tree"] : List Str).map V.str)
  q_TREES_11 : ∀ H, SqT K H A.a_TREES_11 ((["tree", "rows"] : List Str).map V.str)
  q_TREES_12 : ∀ H, SqT K H A.a_TREES_12 ((["sign", "tree", "tree"] : List Str).map V.str)
  q_TREES_13 : ∀ H, SqT K H A.a_TREES_13 ((["tree", "kind"] : List Str).map V.str)
  q_TREES_14 : ∀ H, SqT K H A.a_TREES_14 ((["plain", "trees"] : List Str).map V.str)
  m_PATTERNS : U.MgV mg "PATTERNS" (.ref A.a_PATTERNS)
  q_PATTERNS : KTab w K A.a_PATTERNS (kv_PATTERNS A)
  q_PATTERNS_0 : ∀ H, SqT K H A.a_PATTERNS_0 (([] : List Str).map V.str)
  q_PATTERNS_1 : ∀ H, SqT K H A.a_PATTERNS_1 ((["word"] : List Str).map V.str)
  q_PATTERNS_2 : ∀ H, SqT K H A.a_PATTERNS_2 ((["tag", "tree"] : List Str).map V.str)
  q_PATTERNS_3 : ∀ H, SqT K H A.a_PATTERNS_3 ((["entries"] : List Str).map V.str)
  m_SPANS : U.MgV mg "SPANS" (.ref A.a_SPANS)
  q_SPANS : KTab w K A.a_SPANS (kv_SPANS A)
  q_SPANS_0 : ∀ H, SqT K H A.a_SPANS_0 [(V.int 3), (V.int 3)]
  q_SPANS_1 : ∀ H, SqT K H A.a_SPANS_1 [(V.int 2), (V.int 2)]
  q_SPANS_2 : ∀ H, SqT K H A.a_SPANS_2 [(V.int 2), (V.int 2)]
  q_SPANS_3 : ∀ H, SqT K H A.a_SPANS_3 [(V.int 1), (V.int 1)]
  q_SPANS_4 : ∀ H, SqT K H A.a_SPANS_4 [(V.int 2), (V.int 2)]
  q_SPANS_5 : ∀ H, SqT K H A.a_SPANS_5 [(V.int 2), (V.int 3)]
  q_SPANS_6 : ∀ H, SqT K H A.a_SPANS_6 [(V.int 1), (V.int 3)]
  q_SPANS_7 : ∀ H, SqT K H A.a_SPANS_7 [(V.int 2), (V.int 4)]
  q_SPANS_8 : ∀ H, SqT K H A.a_SPANS_8 [(V.int 3), (V.int 5)]
  q_SPANS_9 : ∀ H, SqT K H A.a_SPANS_9 [(V.int 1), (V.int 2)]
  q_SPANS_10 : ∀ H, SqT K H A.a_SPANS_10 [(V.int 2), (V.int 3)]
  q_SPANS_11 : ∀ H, SqT K H A.a_SPANS_11 [(V.int 2), (V.int 4)]
  q_SPANS_12 : ∀ H, SqT K H A.a_SPANS_12 [(V.int 1), (V.int 2)]
  m_LEAVES : U.MgV mg "LEAVES" (.ref A.a_LEAVES)
  q_LEAVES : KTab w K A.a_LEAVES (kv_LEAVES A)
  m_OWN_WORDS : U.MgV mg "OWN_WORDS" (.ref A.a_OWN_WORDS)
  q_OWN_WORDS : KTab w K A.a_OWN_WORDS (kv_OWN_WORDS A)
  m_SMALL_LETTERS : U.MgV mg "SMALL_LETTERS" (.str "abcdefghijklmnopqrstuvwxyz")
  m_CAPITALS : U.MgV mg "CAPITALS" (.str "ABCDEFGHIJKLMNOPQRSTUVWXYZ")
  m_DIGITS : U.MgV mg "DIGITS" (.str "0123456789")
  m_SIGNS : U.MgV mg "SIGNS" (.ref A.a_SIGNS)
  q_SIGNS : ∀ H, SqT K H A.a_SIGNS ((["+", "-", "*", "/", "<"] : List Str).map V.str)
  m_gcd : mg "gcd" = some (.builtin "math.gcd")
  cn : PySem.W.specialIn K (.builtin "object.__class__") "__get__" = some (some (.builtin "getset_descriptor.__get__"))
  ct : PySem.W.takesIn K (.builtin "object.__class__") = some true
  m_KindError : mg "KindError" = some (.ref A.c_KindError)
  m_ByZero : mg "ByZero" = some (.ref A.c_ByZero)
  x_ByZero : PySem.W.excIn K A.c_ByZero [.type "ValueError", .type "Exception", .type "BaseException", .type "object"] "ValueError.__new__" = true
  k_ByZero : PySem.W.keepIn K (.ref A.c_ByZero) = true
  b_ByZero : PySem.W.subIn K (.ref A.c_ByZero) (.type "BaseException") = some true
  t_ByZero : PySem.W.typeIn K (.ref A.c_ByZero) = some (.type "type")
  te_ByZero : PySem.W.exmOne K (.ref A.c_ByZero) (.ref A.c_ByZero) = some true
  m_Ratio : mg "Ratio" = some (.ref A.c_Ratio)
  cls_Ratio : Cls K A.c_Ratio
  mk_Ratio : Mk K A.c_Ratio A.a_Ratio_init
  ca_Ratio : PySem.W.findIn K (.ref A.c_Ratio) "__class__" = some (some (.builtin "object.__class__"))
  cm_Ratio : PySem.W.mroIn K A.c_Ratio (.type "object") = some true
  sf_Ratio : PySem.W.selfFirst K A.c_Ratio = true
  sub_Ratio : PySem.W.subIn K (.type "int") (.ref A.c_Ratio) = some false
  nf_Ratio_int : PySem.W.notFirst K A.c_Ratio (.type "int") = true
  ki_Ratio_int : PySem.W.kitOne K (.type "int") (.ref A.c_Ratio) = some false
  nf_Ratio_bool : PySem.W.notFirst K A.c_Ratio (.type "bool") = true
  ki_Ratio_bool : PySem.W.kitOne K (.type "bool") (.ref A.c_Ratio) = some false
  nf_Ratio_NoneType : PySem.W.notFirst K A.c_Ratio (.type "NoneType") = true
  ki_Ratio_NoneType : PySem.W.kitOne K (.type "NoneType") (.ref A.c_Ratio) = some false
  nf_Ratio_str : PySem.W.notFirst K A.c_Ratio (.type "str") = true
  ki_Ratio_str : PySem.W.kitOne K (.type "str") (.ref A.c_Ratio) = some false
  nf_Ratio_tuple : PySem.W.notFirst K A.c_Ratio (.type "tuple") = true
  ki_Ratio_tuple : PySem.W.kitOne K (.type "tuple") (.ref A.c_Ratio) = some false
  nf_Ratio_list : PySem.W.notFirst K A.c_Ratio (.type "list") = true
  ki_Ratio_list : PySem.W.kitOne K (.type "list") (.ref A.c_Ratio) = some false
  nf_Ratio_dict : PySem.W.notFirst K A.c_Ratio (.type "dict") = true
  ki_Ratio_dict : PySem.W.kitOne K (.type "dict") (.ref A.c_Ratio) = some false
  ko_Ratio_tuple : PySem.W.kitOne K (.ref A.c_Ratio) (.type "tuple") = some false
  ko_Ratio_str : PySem.W.kitOne K (.ref A.c_Ratio) (.type "str") = some false
  ko_Ratio_int : PySem.W.kitOne K (.ref A.c_Ratio) (.type "int") = some false
  ko_Ratio_bool : PySem.W.kitOne K (.ref A.c_Ratio) (.type "bool") = some false
  na_Ratio_top : NoAttr K A.c_Ratio "_top"
  na_Ratio_bottom : NoAttr K A.c_Ratio "_bottom"
end Toy
namespace Toy
open PySem L2 U
local macro_rules | `(tactic| walk_at "w") => `(tactic| repeat (first
  | refine ⟨_, rfl, ?_⟩
  | refine ⟨_, _, rfl, rfl, ?_⟩
  | refine Or.inr ⟨_, rfl, ?_⟩
  | refine Or.inl ⟨rfl, ?_⟩
  | refine Or.inl ⟨_, _, rfl, rfl, ?_⟩
  | refine Or.inl ⟨_, rfl, U.sz (by omega), ?_⟩
  | refine Or.inr ⟨_, _, rfl, rfl, ?_⟩
  | refine Or.inl ⟨_, _, _, _, rfl, rfl, (by first | assumption | exact SqL.of (by assumption) | exact SqL.of upd_same), (by rfl), ?_⟩
  | refine ⟨_, _, _, _, rfl, rfl, (by first | assumption | exact upd_same), (by rfl), ?_⟩
  | refine Or.inr ⟨_, _, rfl, (by first | exact Or.inl (by assumption) | exact Or.inl (SqL.of (by assumption)) | exact Or.inl (SqL.of upd_same) | exact Or.inr (SqT.of upd_same) | exact Or.inr (by assumption)), (by rfl), (by rfl), ?_⟩
  | refine Or.inr ⟨_, _, rfl, Or.inl (by first | assumption | exact SqL.of (by assumption) | exact SqL.of upd_same), ?_⟩
  | refine ⟨_, _, rfl, ?_⟩
  | refine And.intro (Or.inl ⟨rfl, _, SqL.of (by first | assumption | exact upd_same)⟩) ?_
  | refine ⟨_, _, _, rfl, rfl, (by first | assumption | exact upd_same), U.szl (by first | omega | (rw [List.length_map]; omega) | (show _ < 100000; decide)), ?_⟩
  | refine ⟨U.sz (by first | decide | (simp only [List.length_cons, List.length_nil]; decide)), ?_⟩
  | refine And.intro (by first | omega | decide) ?_
  | refine And.intro ⟨by omega, by omega⟩ ?_
  | refine And.intro (Or.inl ⟨by omega, by omega⟩) ?_
  | refine And.intro (Or.inr ⟨by omega, by omega⟩) ?_
  | refine And.intro ⟨by omega, by omega, by omega⟩ ?_
  | refine U.ifT (by omega) ?_
  | refine U.ifF (by omega) ?_
  | refine U.ifTi (by omega) ?_
  | refine U.ifFi (by omega) ?_))
section
open PySem.Spec PyProof.Rows SrtO
/-- text before text, then the smaller number -/
def ltS (p q : Str × Int) : Bool := if p.1 = q.1 then decide (p.2 < q.2) else decide (p.1.cps.toList < q.1.cps.toList)
theorem str_ext {a b : Str} (h : a.cps.toList = b.cps.toList) : a = b := by
  obtain ⟨a⟩ := a
  obtain ⟨b⟩ := b
  exact congrArg PySem.Str.mk (Array.toList_inj.mp h)
theorem ltS_iff {p q : Str × Int} : ltS p q = true ↔ p.1.cps.toList < q.1.cps.toList ∨ (p.1 = q.1 ∧ p.2 < q.2) := by
  unfold ltS
  by_cases e : p.1 = q.1
  · rw [if_pos e, decide_eq_true_eq, e]
    constructor
    · exact fun h => .inr ⟨rfl, h⟩
    · rintro (h | h)
      · exact absurd h (List.lt_irrefl _)
      · exact h.2
  · rw [if_neg e, decide_eq_true_eq]
    constructor
    · exact .inl
    · rintro (h | h)
      · exact h
      · exact absurd h.1 e
theorem ltS_no {p q : Str × Int} : ltS p q = false ↔ q.1.cps.toList < p.1.cps.toList ∨ (p.1 = q.1 ∧ q.2 ≤ p.2) := by
  rw [← Bool.not_eq_true, ltS_iff]
  constructor
  · intro h
    by_cases e : p.1 = q.1
    · refine .inr ⟨e, ?_⟩
      have : ¬ p.2 < q.2 := fun z => h (.inr ⟨e, z⟩)
      omega
    · refine .inl ?_
      by_cases z : q.1.cps.toList < p.1.cps.toList
      · exact z
      · exact absurd (str_ext (List.le_antisymm (show p.1.cps.toList ≤ q.1.cps.toList from z) (show q.1.cps.toList ≤ p.1.cps.toList from fun t => h (.inl t)))) e
  · rintro (h | ⟨h1, h2⟩) (z | ⟨z1, z2⟩)
    · exact List.lt_asymm h z
    · rw [z1] at h
      exact List.lt_irrefl _ h
    · rw [h1] at z
      exact List.lt_irrefl _ z
    · omega
theorem swo_ltS {α : Type} (k : α → Str × Int) : Swo fun v u => ltS (k v) (k u) := by
  refine ⟨fun x y h => ?_, fun x y z h1 h2 => ?_⟩
  · rcases ltS_iff.mp h with h | ⟨h1, h2⟩
    · exact ltS_no.mpr (.inl h)
    · exact ltS_no.mpr (.inr ⟨h1.symm, by omega⟩)
  · rcases ltS_no.mp h1 with a | ⟨a1, a2⟩
    · rcases ltS_no.mp h2 with b | ⟨b1, b2⟩
      · exact ltS_no.mpr (.inl (List.lt_trans a b))
      · exact ltS_no.mpr (.inl (by rw [b1]; exact a))
    · rcases ltS_no.mp h2 with b | ⟨b1, b2⟩
      · exact ltS_no.mpr (.inl (by rw [← a1]; exact b))
      · exact ltS_no.mpr (.inr ⟨b1.trans a1, by omega⟩)
section
variable {prog : Program} {w : World} {A : Around} {s : Shared}
def IsSI (h : Heap) (v : Value) (x : Str) (y : Int) : Prop := ∃ a o t u n, v = .ref a ∧ h.get? a = some o ∧ o.cls = .type "tuple" ∧ o.data = .seq #[.str x t, .int y u] n
theorem IsSI.keeps {h h' : Heap} {v : Value} {x : Str} {y : Int} (p : IsSI h v x y) (k : ∀ b o, h.get? b = some o → o.cls = .type "tuple" → h'.get? b = some o) : IsSI h' v x y := by
  obtain ⟨a, o, t, u, n, e, ho, hc, hd⟩ := p
  exact ⟨a, o, t, u, n, e, k _ _ ho hc, hc, hd⟩
theorem firstsSI {h : Heap} : ∀ {vs : List Value}, (∀ v ∈ vs, ∃ x y, IsSI h v x y) → ∃ fs : List Value, PySem.W.KatTups h vs fs ∧ fs.length = vs.length ∧ ∀ f ∈ fs, ∃ x t, f = Value.str x t
  | [], _ => ⟨[], PySem.W.KatTups.nil, rfl, fun _ hm => by simp at hm⟩
  | v :: vs, hp => by
    obtain ⟨fs, h1, h2, h3⟩ := firstsSI (vs := vs) fun v' hm => hp v' (List.mem_cons_of_mem _ hm)
    obtain ⟨x, y, a, o, t, u, n, rfl, ho, hc, hd⟩ := hp v (List.mem_cons_self ..)
    refine ⟨.str x t :: fs, PySem.W.KatTups.cons ho hc hd rfl h1, by rw [List.length_cons, List.length_cons, h2], fun f hf => ?_⟩
    rcases List.mem_cons.mp hf with rfl | hf
    · exact ⟨x, t, rfl⟩
    · exact h3 f hf
theorem si_cmp {vs : List Value} {k : Value → Str × Int} (hp : ∀ v ∈ vs, IsSI s.heap v (k v).1 (k v).2) : Cmp prog w A s (tuples' true) (fun p => p.1 ∈ vs) (lt2 fun v u => ltS (k v) (k u)) := by
  intro p q hm hm'
  have h1 := hp _ hm
  have h2 := hp _ hm'
  show wpAny (model prog w) A (keyLt' (tuples' true) p.1 q.1) (fun r s' => s' = s ∧ r = ltS (k p.1) (k q.1)) (fun _ _ => False) s
  unfold ltS
  generalize (k p.1).1 = x at h1 ⊢
  generalize (k p.1).2 = y at h1 ⊢
  generalize (k q.1).1 = x' at h2 ⊢
  generalize (k q.1).2 = y' at h2 ⊢
  obtain ⟨a, o, t, u, n, e, ho, hc, hd⟩ := h1
  obtain ⟨a', o', t', u', n', e', ho', hc', hd'⟩ := h2
  rw [e, e']
  refine PySem.W.kat_lt ho hd ho' hd' ?_
  show PySem.W.KatLex prog w A true (decide (2 < 2)) _ [(.str x t, .str x' t'), (.int y u, .int y' u')] 0 s
  refine PySem.W.kat_cons (SeqAt.EqAt.str_str x t x' t' prog w _ _ ?_)
  refine PySem.W.kat_go (fun e1 => ?_) (fun e1 => ?_)
  · have ex : x = x' := by simpa using e1
    refine PySem.W.kat_yes (PySem.W.kat_cons (SeqAt.EqAt.int_int y u y' u' prog w _ _ ?_))
    refine PySem.W.kat_go (fun e2 => ?_) (fun e2 => ?_)
    · have ey : y = y' := by simpa using e2
      have e3 : (if x = x' then decide (y < y') else decide (x.cps.toList < x'.cps.toList)) = false := by
        rw [if_pos ex, ey]
        exact decide_eq_false (Int.lt_irrefl _)
      exact PySem.W.kat_yes (PySem.W.kat_nil ⟨rfl, e3.symm⟩)
    · have e3 : (if x = x' then decide (y < y') else decide (x.cps.toList < x'.cps.toList)) = decide (y < y') := if_pos ex
      refine PySem.W.kat_no (PySem.W.kat_one _ _ (PyProof.Rows.lt_int ?_))
      exact (show s = s ∧ decide (y < y') = (if x = x' then decide (y < y') else decide (x.cps.toList < x'.cps.toList)) from ⟨rfl, e3.symm⟩)
  · have ex : ¬ x = x' := by simpa using e1
    have e3 : (if x = x' then decide (y < y') else decide (x.cps.toList < x'.cps.toList)) = decide (x.cps.toList < x'.cps.toList) := if_neg ex
    exact PySem.W.kat_no (oneLt_str ⟨rfl, e3.symm⟩)
theorem si_sortable {a : Addr} {vs : List Value} {k : Value → Str × Int} (h0 : 0 < vs.length) (hp : ∀ v ∈ vs, IsSI s.heap v (k v).1 (k v).2) (ha : ∀ o, s.heap.get? a = some o → o.cls ≠ .type "tuple") : SortableO prog w A s a vs fun v u => ltS (k v) (k u) := by
  intro h' keep
  have hp' : ∀ v ∈ vs, IsSI h' v (k v).1 (k v).2 := fun v hm => (hp v hm).keeps fun b o e c => keep b o (fun z => by subst z; exact ha o e c) e
  obtain ⟨fs, h1, h2, h3⟩ := firstsSI fun v hm => ⟨_, _, hp' v hm⟩
  refine ⟨tuples' true, fun Q E hq => ?_, si_cmp hp'⟩
  refine PySem.W.kat_kind (T := .type "str") h1 (by omega) (fun f hm => ?_) (by rfl) ?_
  · obtain ⟨x, t, rfl⟩ := h3 f hm
    exact PySem.W.Looks.now
  · have e : (Value.type "str" != Value.type "tuple") = true := by first | decide +kernel | rfl | decide
    rw [e]
    exact hq
end
/-- sorted(xs), xs a list of pairs of a text and a whole number (k says which): a new list, sorted, equal ones in their order -/
def rSortedSI (K : PySem.W.Frag) : List V → Hp → VK → Prop := fun vs H Q => ∃ (a : Addr) (xs : List V) (k : V → Str × Int), vs = [V.ref a] ∧ SqL K H a xs ∧ (∀ x ∈ xs, ∃ t, x = V.ref t ∧ H t = some (.tup [.str (k x).1, .int (k x).2])) ∧
  ∀ ys p, Srtd (fun x y => ltS (k x) (k y)) ys → Stb (fun x y => ltS (k x) (k y)) ys xs → H p = none → Q (.ref p) (upd H p (.lst ys))
theorem cr_sortedSI {X : Cx} : CallR X (.builtin "sorted") (rSortedSI X.K) := by
  intro pins s σ H vs us Q I r h
  obtain ⟨a, xs, k, rfl, hs, hx, q⟩ := h
  obtain ⟨its, rv, hl, hz⟩ := I.list hs
  obtain ⟨u, rfl, ru⟩ := vals1 r
  obtain rfl : u = Value.ref a := ru
  obtain ⟨e1, e2⟩ := refs_back rv fun x m => by
    obtain ⟨t, e, _⟩ := hx x m
    exact ⟨t, e⟩
  have hp : ∀ v ∈ its, IsSI s.heap v (k (backV v)).1 (k (backV v)).2 := fun v hv => by
    obtain ⟨t, rfl⟩ := e2 v hv
    have hm : V.ref t ∈ xs := by rw [e1]; exact List.mem_map.mpr ⟨_, hv, rfl⟩
    obtain ⟨t', e, ht⟩ := hx _ hm
    cases e
    obtain ⟨_, its2, r2, o, ho, hc, n, hd⟩ := I.hok _ _ ht
    obtain ⟨u1, u2, rfl, ri, rj⟩ := vals2 r2
    obtain ⟨t1, rfl⟩ := ri
    obtain ⟨t2, rfl⟩ := rj
    exact ⟨t, o, t1, t2, n, rfl, ho, hc, hd⟩
  refine sorted_ord (swo_ltS fun u => k (backV u)) hl.isList (by rw [← rv.length]; exact hz) (fun h2 h₁ a ha kk => ?_) fun out h1 h2 => ?_
  · refine si_sortable (s := { s with heap := h₁ }) (by omega) (fun v hm => (hp v hm).keeps fun b o e _ => (kk b o e).2) fun o e => ?_
    have e' : some o = some (seqObj "list" its.toArray 0) := e.symm.trans ha
    cases e'
    intro c
    exact absurd (Value.type.inj c) (by decide)
  · have h3 : ∀ u ∈ out, ∃ a, u = Value.ref a := fun u hu => e2 u (h2.perm.mem_iff.mp hu)
    have hb : Stb (fun x y => ltS (k x) (k y)) (out.map backV) xs := by
      rw [e1]
      exact Stb.map (swo_ltS k) backV h2
    obtain ⟨n, hn⟩ := sortedAll_at s.heap its out.toArray
    refine ⟨.ref (s.heap.objs.size + 1), upd H (s.heap.objs.size + 1) (.lst (out.map backV)), I.laid (t' := s.toks) (fun b o e => sortedAll_old e) (Nat.le_succ _) ⟨?_, out, n, vals_back h3, hn⟩, rfl, q _ _ (srtd_map h1) hb (I.hok.fresh (Nat.le_succ _))⟩
    rw [hb.len]
    exact hz
end
section
open PySem.Spec PyProof.Rows
variable {X : Cx}
/-- a tuple of which it is known that it has no fields of its own -/
def TupF (H : Hp) (a : Addr) (xs : List V) : Prop := ∃ o : Obj, o.cls = .type "tuple" ∧ o.dict = none ∧ H a = some (.frz o (.tup xs))
theorem TupF.sqT {K : PySem.W.Frag} {H : Hp} {a : Addr} {xs : List V} (h : TupF H a xs) : SqT K H a xs := by
  obtain ⟨o, _, _, e⟩ := h
  exact .inl (.inr ⟨o, e⟩)
theorem TupF.keep {H : Hp} {a p : Addr} {xs : List V} {u : HO} (h : TupF H a xs) (n : H p = none) : TupF (upd H p u) a xs := by
  obtain ⟨o, c, d, e⟩ := h
  exact ⟨o, c, d, by rw [upd_ne (fun z => by rw [z, n] at e; cases e)]; exact e⟩
/-- tuple(xs), xs a list: a new tuple of which it is known that it has no fields -/
theorem cr_tupF : CallR X (.type "tuple") (fun xs H Q => ∃ p ys, xs = [.ref p] ∧ SqL X.K H p ys ∧ ∀ l o, o.cls = .type "tuple" → o.dict = none → H l = none → Q (.ref l) (upd H l (.frz o (.tup ys)))) := by
  intro pins s σ H xs us Q I r h
  obtain ⟨p, ys, rfl, hq, q⟩ := h
  obtain ⟨u, rfl, rx⟩ := vals1 r
  cases rx
  obtain ⟨its, r', pl, hz⟩ := I.list hq
  have hlen := r'.length
  refine call_tuple_list pl.isList (fun h' kp => ?_) (by simp only [List.size_toArray] <;> omega)
  have I1 : Inv X pins σ H { s with heap := h' } := I.kept (t' := s.toks) kp
  have I2 : Inv X pins σ (upd H h'.objs.size (.frz { cls := .type "tuple", data := .seq its.toArray } (.tup ys))) { s with heap := h'.push { cls := .type "tuple", data := .seq its.toArray } } :=
    I1.laid (t' := s.toks) (fun b o e => Heap.get?_push_of_some _ e) (Nat.le_refl _)
      (show ObjOk X.prog X.w _ _ _ (.frz { cls := .type "tuple", data := .seq its.toArray } (.tup ys)) from ⟨Heap.get?_push_size _ rfl, hz, its, r', IsTup.new _ _⟩)
  exact ⟨.ref h'.objs.size, _, I2, rfl, q _ _ rfl rfl (I1.hok.fresh (Nat.le_refl _))⟩
/-- a tuple of written items, of which it is known that it has no fields -/
def tTupF (t : TA) : TE := fun σ H Q => t σ H fun xs H1 => xs.length ≤ sizeLine ∧ ∀ p o, o.cls = .type "tuple" → o.dict = none → H1 p = none → Q (.ref p) (upd H1 p (.frz o (.tup xs)))
theorem pe_tupF {es : List Expr} {t : TA} {pos : Pos} {x1} (h : PA X es t) : PE X (.Tuple es x1 pos) (tTupF t) := by
  refine ⟨fun pins s σ H Q I hq => ?_⟩
  refine wpAny_Tuple_spliced (thn (h.run pos pins s σ H _ I hq) fun us s1 ⟨xs, H1, I1, r, z, q⟩ => ⟨by rw [← r.length]; exact z, ?_⟩)
  have hf : H1 s1.heap.objs.size = none := I1.hok.fresh (Nat.le_refl _)
  refine ⟨.ref s1.heap.objs.size, upd H1 s1.heap.objs.size (.frz { cls := .type "tuple", data := .seq us.toArray } (.tup xs)), I1.laid (t' := s1.toks) (fun b u e => Heap.get?_push_of_some _ e) (Nat.le_refl _) ?_, rfl, q _ _ rfl rfl hf⟩
  exact ⟨Heap.get?_push_size _ rfl, z, us, r, ⟨_, Heap.get?_push_size _ rfl, rfl, _, rfl⟩⟩
theorem TupF.new {H : Hp} {p : Addr} {o : Obj} {xs : List V} (c : o.cls = .type "tuple") (d : o.dict = none) : TupF (upd H p (.frz o (.tup xs))) p xs := ⟨o, c, d, upd_same⟩
theorem pairsT_of {pins : List (Addr × Obj)} {σ : L2.St} {H : Hp} {s : Shared} (I : Inv X pins σ H s) : ∀ {ps : List Addr} {kvs : List (Key × V)}, Paired (fun p kv => SqT X.K H p [kV kv.1, kv.2]) ps kvs →
    ∃ (prs : List (Key × Value)) (uvs : List (Value × Value)), KV kvs prs ∧ prs.length = ps.length ∧ uvs.length = ps.length ∧
      ∀ (j : Nat) (k v : Value), uvs[j]? = some (k, v) → ∃ (b : Addr) (q : Key), ps[j]? = some b ∧ prs[j]? = some (q, v) ∧ IsTup s.heap b #[k, v] ∧ keyIs q k = true
  | _, _, .nil => ⟨[], [], .nil, rfl, rfl, fun j k v e => by simp at e⟩
  | _, _, .cons (a := p) (b := kv) h t => by
    obtain ⟨prs, uvs, r, hl, hl2, hp⟩ := pairsT_of I t
    obtain ⟨its, rv, ht, _⟩ := I.tuple h
    obtain ⟨u, y, ei, ru, ry⟩ := vals2 rv
    subst ei
    refine ⟨(kv.1, y) :: prs, (u, y) :: uvs, .cons ⟨rfl, ry⟩ r, by rw [List.length_cons, List.length_cons, hl], by rw [List.length_cons, List.length_cons, hl2], fun j k v e => ?_⟩
    cases j with
    | zero =>
      have e' : (u, y) = (k, v) := Option.some.inj e
      cases e'
      exact ⟨p, kv.1, rfl, rfl, ht, kV_is (P := X.prog) (w := X.w) ru⟩
    | succ j =>
      obtain ⟨b, q, e1, e2, e3, e4⟩ := hp j k v (by simpa using e)
      exact ⟨b, q, by simpa using e1, by simpa using e2, e3, e4⟩
/-- dict(xs) of a tuple of pairs (key, value): later pairs win, the place is the first one's -/
theorem cr_dictPT (hcalm : X.calm = true) : CallR X (.type "dict") (fun xs H Q => ∃ (a : Addr) (ps : List Addr) (kvs : List (Key × V)), xs = [.ref a] ∧ TupF H a (ps.map V.ref) ∧ Paired (fun p kv => SqT X.K H p [kV kv.1, kv.2]) ps kvs ∧
    ∀ p, H p = none → Q (.ref p) (upd H p (.dK (mergeK [] kvs)))) := by
  intro pins s σ H xs us Q I r q
  obtain ⟨a, ps, kvs, ex, ⟨o, hc, hd, ho⟩, hp, q⟩ := q
  subst ex
  obtain ⟨u, eu, rx⟩ := vals1 r
  subst eu
  cases rx
  obtain ⟨hg, hz, its, rv, o', ho', _, n, hdat⟩ := I.hok a _ ho
  have eo : some o = some o' := hg.symm.trans ho'
  cases eo
  have ei := refs_at rv
  subst ei
  rw [List.length_map] at hz
  obtain ⟨prs, uvs, rel, hl, hl2, hpr⟩ := pairsT_of I hp
  have ok : PySem.PlainSeq "tuple" s.heap a (ps.map Value.ref).toArray ∧ PySem.PairItems s.heap (ps.map Value.ref).toArray (fun j => ps.getD j 0) uvs := by
    refine ⟨⟨o, n, hg, hc, hd, hdat⟩, by simp [hl2], fun j k v e => ?_⟩
    obtain ⟨b, q', e1, e2, e3, e4⟩ := hpr j k v e
    have eb : ps.getD j 0 = b := by simp [List.getD, e1]
    refine ⟨by simp [e1], .inl ?_⟩
    show s.heap.IsTuple (ps.getD j 0) _
    rw [eb]
    exact e3
  refine PySem.call_dict_pairs (knd := mixKind X.prog X.w) (kvs := prs) (PySem.PairArg.tuple a (ps.map Value.ref).toArray (fun j => ps.getD j 0) uvs) (I.ok.hd hcalm) ok
    ⟨by rw [hl, hl2], fun i k v e => ?_⟩ (by rw [hl2]; exact hz) fun h' tk hd' k => ?_
  · obtain ⟨b, q', e1, e2, e3, e4⟩ := hpr i k v e
    exact ⟨q', e2, e4⟩
  · have hm : (s.heap.objs.size == sysModules) = false := beq_eq_false_iff_ne.mpr (Nat.ne_of_gt I.big)
    have hlen : (mergeK [] kvs).length ≤ sizeLine := by
      refine Nat.le_trans (length_mergeK kvs []) ?_
      rw [List.length_nil, Nat.zero_add, rel.length, hl]
      exact hz
    exact ⟨.ref s.heap.objs.size, upd H s.heap.objs.size (.dK (mergeK [] kvs)), I.laid (t' := tk) (fun b o e => k b o (by simp) e) (Nat.le_refl _) (show ObjOk X.prog X.w _ _ _ (.dK (mergeK [] kvs)) from ⟨hlen, hm, merged [] prs, KV.merge rel .nil, hd'⟩), rfl, q _ (I.hok.fresh (Nat.le_refl _))⟩
end
section
open PySem.Spec PyProof.Rows
theorem bindsAll {K : PySem.W.Frag} {x qual : Str} {params : Arguments} {body : List Stmt} {scope : Scope} {dvs : List V} {f : Addr} {fd : FuncData} {ps : List Str} (F : FunD K x qual params body scope dvs [] f fd) (hd : dvs ≠ [])
    (h : ∀ (T : Addr) (kV doc pm : Value) (an : Option Addr) (cdv ct : Value) (us its : List Value), us.length = ps.length → its.length = dvs.length →
      ∃ k, bindArgs (PySem.W.fnOf x qual params body scope (.ref T) kV doc pm an cdv ct) ⟨us, []⟩ = seqItems? (.ref T) >>= k ∧ k (some its.toArray) = pure (ps.zip us)) : Binds K fd ps [] := by
  obtain ⟨ds, v, b⟩ := F.binds1 (ps := ps) ps.length dvs.length hd (by simp) (fun T kV doc pm an cdv ct us its h1 h2 => by
    obtain ⟨k, e1, e2⟩ := h T kV doc pm an cdv ct us its h1 h2
    refine ⟨k, e1, ?_⟩
    rw [← h2, List.drop_length, List.append_nil]
    exact e2)
  rw [List.drop_length] at v
  cases v
  exact b
theorem kit_no {K : PySem.W.Frag} {C : Addr} {T : String} (i : PySem.W.isClsIn K C = true) (t : PySem.W.typeIn K (.ref C) = some (.type "type")) (h : PySem.W.subIn K (.type T) (.ref C) = some false) : PySem.W.kitOne K (.type T) (.ref C) = some false := by
  have e1 : ((PySem.W.clsIn K C).isSome && PySem.W.typeIn K (.ref C) == some (.type "type")) = true := by
    have i' : (PySem.W.clsIn K C).isSome = true := i
    rw [i', t] <;> rfl
  have ne : ¬ (Value.type T == Value.ref C) = true := fun q => by cases beq_iff_eq.mp q
  unfold PySem.W.kitOne
  rw [if_neg ne]
  show (if _ then _ else _) = _
  rw [if_pos e1]
  exact h
theorem kit_self {K : PySem.W.Frag} {v : Value} : PySem.W.kitOne K v v = some true := by
  unfold PySem.W.kitOne
  rw [if_pos (beq_iff_eq.mpr rfl)]
theorem kit_noT {K : PySem.W.Frag} {C : Addr} {T : String} (m : PySem.W.kitMeta T = true) (h : PySem.W.subIn K (.ref C) (.type T) = some false) : PySem.W.kitOne K (.ref C) (.type T) = some false := by
  have ne : ¬ (Value.ref C == Value.type T) = true := fun q => by cases beq_iff_eq.mp q
  unfold PySem.W.kitOne
  rw [if_neg ne]
  show (if _ then _ else _) = _
  rw [if_pos m]
  exact h
/-- the value at a key of a written dict -/
def tabGet (kvs : List (Str × V)) (z : Str) : Option V := (kvs.find? fun p => p.1 == z).map (·.2)
theorem tab_find {kvs : List (Str × V)} {es : List DictEntry} (h : Paired (fun (p : Str × V) (e : DictEntry) => (∃ t, e.key = .str p.1 t) ∧ RelV p.2 e.val) kvs es) (z : Str) :
    (tabGet kvs z = none ∧ es.find? (fun d => d.key.isStr z) = none) ∨ ∃ v e, tabGet kvs z = some v ∧ es.find? (fun d => d.key.isStr z) = some e ∧ RelV v e.val := by
  induction h with
  | nil => exact .inl ⟨rfl, rfl⟩
  | @cons p e ps es a r ih =>
    obtain ⟨⟨t, hk⟩, rv⟩ := a
    have ek : e.key.isStr z = (p.1 == z) := by rw [hk] <;> rfl
    cases hb : p.1 == z with
    | true =>
      refine .inr ⟨p.2, e, ?_, ?_, rv⟩
      · unfold tabGet
        rw [List.find?_cons_of_pos (by exact hb)] <;> rfl
      · rw [List.find?_cons_of_pos (by rw [ek, hb])]
    | false =>
      have e1 : tabGet (p :: ps) z = tabGet ps z := by
        unfold tabGet
        rw [List.find?_cons_of_neg (by rw [hb]; decide)]
      have e2 : (e :: es).find? (fun d => d.key.isStr z) = es.find? (fun d => d.key.isStr z) := by
        rw [List.find?_cons_of_neg (by rw [ek, hb]; decide)]
      rw [e1, e2]
      exact ih
theorem tab_ref {kvs : List (Str × V)} {es : List DictEntry} (h : Paired (fun (p : Str × V) (e : DictEntry) => (∃ t, e.key = .str p.1 t) ∧ RelV p.2 e.val) kvs es) : es.any (·.refKey) = false := by
  induction h with
  | nil => rfl
  | @cons p e ps es a r ih =>
    obtain ⟨⟨t, hk⟩, rv⟩ := a
    rw [List.any_cons, ih, Bool.or_false]
    unfold DictEntry.refKey
    rw [hk]
theorem KTab.get {w : World} {K : PySem.W.Frag} {d : Addr} {kvs : List (Str × V)} (h : KTab w K d kvs) (z : Str) :
    ∃ es n, KDict K w d es n ∧ ((tabGet kvs z = none ∧ PySem.W.nsIn K d z = some none) ∨ ∃ v u, tabGet kvs z = some v ∧ PySem.W.nsIn K d z = some (some u) ∧ RelV v u) := by
  obtain ⟨es, n, D, p⟩ := h
  refine ⟨es, n, D, ?_⟩
  have e : PySem.W.nsIn K d z = (match es.toList.find? (·.key.isStr z) with
      | some e => some (some e.val)
      | none => if es.toList.any (·.refKey) then none else some none) := by
    unfold PySem.W.nsIn
    rw [D.at_] <;> rfl
  rw [e]
  rcases tab_find p z with ⟨h1, h2⟩ | ⟨v, en, h1, h2, h3⟩
  · refine .inl ⟨h1, ?_⟩
    rw [h2, tab_ref p] <;> rfl
  · refine .inr ⟨v, en.val, h1, ?_, h3⟩
    rw [h2]
variable {X : Cx} {K : PySem.W.Frag} {w : World}
theorem op_inT (hK : X.K = K) (hw : X.w = w) : OpR X (compareOp .In) (fun x y H Q => ∃ (z : Str) (d : Addr) (kvs : List (Str × V)), x = .str z ∧ y = .ref d ∧ KTab w K d kvs ∧ Q (.bl (tabGet kvs z).isSome) H) := by
  subst hK hw
  intro pins s σ H x y v u Q I rx ry h
  obtain ⟨z, d, kvs, rfl, rfl, ht, q⟩ := h
  obtain ⟨es, n, D, hg⟩ := ht.get z
  rcases hg with ⟨h1, h2⟩ | ⟨v1, u1, h1, h2, h3⟩
  · exact op_in_kd D pins s σ H _ _ _ _ Q I rx ry ⟨z, none, rfl, rfl, h2, by rw [h1] at q; exact q⟩
  · exact op_in_kd D pins s σ H _ _ _ _ Q I rx ry ⟨z, some u1, rfl, rfl, h2, by rw [h1] at q; exact q⟩
theorem op_notInT (hK : X.K = K) (hw : X.w = w) : OpR X (compareOp .NotIn) (fun x y H Q => ∃ (z : Str) (d : Addr) (kvs : List (Str × V)), x = .str z ∧ y = .ref d ∧ KTab w K d kvs ∧ Q (.bl (!(tabGet kvs z).isSome)) H) := by
  subst hK hw
  intro pins s σ H x y v u Q I rx ry h
  obtain ⟨z, d, kvs, rfl, rfl, ht, q⟩ := h
  obtain ⟨es, n, D, hg⟩ := ht.get z
  rcases hg with ⟨h1, h2⟩ | ⟨v1, u1, h1, h2, h3⟩
  · exact op_notIn_kd D pins s σ H _ _ _ _ Q I rx ry ⟨z, none, rfl, rfl, h2, by rw [h1] at q; exact q⟩
  · exact op_notIn_kd D pins s σ H _ _ _ _ Q I rx ry ⟨z, some u1, rfl, rfl, h2, by rw [h1] at q; exact q⟩
theorem ix_tab (hK : X.K = K) (hw : X.w = w) : IxR X (fun x y H Q => ∃ (z : Str) (d : Addr) (kvs : List (Str × V)) (v : V), x = .ref d ∧ y = .str z ∧ KTab w K d kvs ∧ tabGet kvs z = some v ∧ Q v H) := by
  subst hK hw
  intro value slice pins s σ H x y v u Q I rx ry h hs
  obtain ⟨z, d, kvs, v0, rfl, rfl, ht, hv, q⟩ := h
  obtain ⟨es, n, D, hg⟩ := ht.get z
  rcases hg with ⟨h1, h2⟩ | ⟨v1, u1, h1, h2, h3⟩
  · rw [hv] at h1
    cases h1
  · rw [hv] at h1
    cases h1
    exact ix_kdict value slice pins s σ H _ _ _ _ Q I rx ry ⟨d, z, v0, rfl, rfl, ⟨es, n, u1, D.at_, D.lit, h2, h3⟩, q⟩ hs
/-- d.get(k), d a written dict -/
theorem pe_getT {o e : Expr} {apos cpos : Pos} {td ty : TE} (hK : X.K = K) (hw : X.w = w) (ho : PE X o td) (he : PE X e ty) (m : M1 X o "get" apos e cpos) :
    PE X (.Call (.Attribute o "get" apos) [e] [] cpos) (fun σ H Q => td σ H fun x H1 => ∃ (d : Addr) (kvs : List (Str × V)), x = .ref d ∧ KTab w K d kvs ∧ ty σ H1 fun y H2 => ∃ z : Str, y = .str z ∧ Q ((tabGet kvs z).getD .non) H2) := by
  subst hK hw
  refine ⟨fun pins s σ H Q I h => ?_⟩
  refine wpAny_Call_method m.base m.few m.line PySem.F.plainAttrs_dict PySem.F.slot_dict_get PySem.F.type_dict_get (thn (ho.run pins s σ H _ I h) fun u s1 ⟨x, H1, I1, rx, d, kvs, ex, ht, q1⟩ => ?_)
  subst ex
  obtain rfl : u = Value.ref d := rx
  obtain ⟨es, n, D, _⟩ := ht.get Str.empty
  have hm := fun (s2 : Shared) (I2 : Inv X pins σ H1 s2) => PySem.W.mapOf_K (prog := X.prog) (w := X.w) I2.kIn D.at_ D.lit
  refine ⟨(hm s1 I1).typeIs, (hm s1 I1).noDict, ?_⟩
  rw [m.trees]
  refine Calls.callWith_builtin rfl (Calls.evalArgs_plain (Calls.spliced_cons (thn (he.run pins s1 σ H1 _ I1 q1) fun iv s2 ⟨y, H2, I2, ry, z, ey, q2⟩ => Calls.spliced_nil ?_)))
  subst ey
  obtain ⟨t, rfl⟩ := ry
  have hm2 := PySem.W.mapOf_K (prog := X.prog) (w := X.w) I2.kIn D.at_ D.lit
  refine call_meetsIn PySem.F.slot_dict_get hm2.typeIs PySem.F.entry_dict_get (PySem.F.args_dict_get_2 _ _) (meets_dict_get (strKind X.prog X.w) d (strKind_is X.prog X.w z t) D.low) ⟨_, hm2, ?_⟩
  obtain ⟨es2, n2, D2, hg⟩ := ht.get z
  have e0 := Option.some.inj (D.at_.symm.trans D2.at_)
  injection e0 with _ _ e1 _
  injection e1 with e1 _
  subst e1
  rcases hg with ⟨h1, h2⟩ | ⟨v1, u1, h1, h2, h3⟩
  · refine ⟨_, H2, I2.tok _, ?_, q2⟩
    rw [h1, PySem.W.find_K D.at_ h2]
    exact rfl
  · refine ⟨_, H2, I2.tok _, ?_, q2⟩
    rw [h1, PySem.W.find_K D.at_ h2]
    exact h3
end
section
open PySem.Spec PyProof.Rows
variable {prog : Program} {w : World} {β : Type} [DecidableEq β] {kd : KeyKind prog w β} {A : Around} {E : Value → Shared → Prop} {s : Shared}
/-- one entry put into a dict -/
theorem put_one {d : Addr} {ps : List (β × Value)} {k : β} {kv x : Value} {R : Unit → Shared → Prop} (h1 : kd.is k kv = true) (h2 : s.heap.DictOf kd d ps) (hz : ps.length ≤ sizeLine)
    (h3 : ∀ g, g.DictOf kd d (stored ps k x) → Heap.SameBut d s.heap g → R () { s with heap := g }) : wpAny (model prog w) A (dictPut d (kd.hash k) kv x) R E s := by
  obtain ⟨ob, en, st, a1, a2, a3, a4, a5, a6⟩ := h2
  have el : en.toList.length = en.size := Array.length_toList
  have le : en.size ≤ sizeLine := by have := a5.length; omega
  have ei : (en.findIdx? fun e => kd.is k e.key) = ps.findIdx? fun q => decide (q.1 = k) := by
    rw [← a5.findIdx k]
    cases en
    simp
  unfold dictPut
  refine wpAny_bind (wpAny_dictFind_of h1 a1 a3 a4 ?_)
  cases e : en.findIdx? fun e => kd.is k e.key with
  | some i =>
    have hs := any_of_findIdx_some (ei ▸ e)
    refine wpAny_updateDict a1 a3 (h3 _ ⟨_, _, st, Heap.get?_update_self _ a1 (Obj.isFreed_of_dict (Obj.data_mapDict a3 _)), a2.mapDict _, Obj.data_mapDict a3 _, a4.modify _ _, ?_, ?_⟩ (Heap.SameBut.update ..))
    · unfold stored
      rw [if_pos hs]
      have hl : (en.toList.findIdx? fun e => kd.is k e.key) = some i := by
        rw [← e]
        cases en
        simp
      have q := a5.modify a6 hl x
      cases en
      simpa using q
    · unfold stored
      rw [if_pos hs, keys_map_store]
      exact a6
  | none =>
    have hn := not_mem_of_findIdx_none (ei ▸ e)
    have ha : ¬ (ps.any fun q => decide (q.1 = k)) = true := fun q => by
      obtain ⟨y, hy, he⟩ := List.any_eq_true.mp q
      exact hn (List.mem_map.mpr ⟨y, hy, of_decide_eq_true he⟩)
    refine wpAny_updateDictKeys (hz := le) a1 a3 (h3 _ ⟨_, _, st + 1, Heap.get?_update_self _ a1 (Obj.isFreed_of_dict (Obj.data_mapDictKeys a3 _)), a2.mapDictKeys _, Obj.data_mapDictKeys a3 _, a4.push h1 _, ?_, ?_⟩ (Heap.SameBut.update ..))
    · unfold stored
      rw [if_neg ha]
      have q := a5.append h1 (kd.hash k) x
      cases en
      simpa using q
    · unfold stored
      rw [if_neg ha, List.map_append, List.nodup_append]
      refine ⟨a6, List.nodup_cons.mpr ⟨by simp, List.nodup_nil⟩, fun u hu v hv e => ?_⟩
      have hv := List.mem_singleton.mp hv
      rw [hv] at e
      have e : u = k := e
      rw [e] at hu
      exact hn hu
theorem merge_map {d a : Addr} {ps qs : List (β × Value)} {R : Unit → Shared → Prop} (hd : s.heap.DictOf kd d ps) (ha : s.heap.DictOf kd a qs) (ne : d ≠ a) (lo : (a == sysModules) = false) (hz : ps.length + qs.length ≤ sizeLine)
    (h : ∀ g, g.DictOf kd d (merged ps qs) → Heap.SameBut d s.heap g → R () { s with heap := g }) : wpAny (model prog w) A (mergeMapping d (.ref a) false) R E s := by
  have hT := ha.typeIs
  obtain ⟨oa, ea, sa, a1, a2, a3, a4, a5, a6⟩ := id ha
  obtain ⟨od, ed, sd, d1, d2, d3, d4, d5, d6⟩ := id hd
  unfold mergeMapping
  refine wpAny_bind (wpAny_isInstance hT isSubtype_dict_dict ?_)
  refine wpAny_bind (wpAny_specialOf hT PySem.F.slot_dict_iter.lookup ?_)
  refine wpAny_bind (wpAny_pure ?_)
  show wpAny _ _ (if (a == sysModules) = true then _ else _) _ _ _
  rw [lo, if_neg (by decide)]
  refine wpAny_bind (wpAny_dictEntries d1 d3 ?_)
  have keys : ∀ e ∈ ea, ∃ k v, kd.is k e.key = true ∧ e.hash = kd.hash k ∧ True ∧ e.val = v := fun e he => by
    obtain ⟨k, h1, h2⟩ := a4 e he
    exact ⟨k, _, h1, h2, trivial, rfl⟩
  have main : wpAny (model prog w) A (do
      let es ← dictEntries a
      let size := es.size
      let epoch ← dictEpoch a
      forIn (List.range size) PUnit.unit fun i _ => (do
        let es2 ← dictEntries a
        match es2[i]? with
        | some e => do
          holding [e.key, e.val] (dictPut d e.hash e.key e.val)
          let ep ← dictEpoch a
          if (ep != epoch) = true then do
            (unsupported "dict.changed-during-merge" : Sem PUnit)
            pure (ForInStep.yield PUnit.unit)
          else pure (ForInStep.yield PUnit.unit)
        | _ => do
          (unsupported "dict.changed-during-merge" : Sem PUnit)
          pure (ForInStep.yield PUnit.unit) : Sem (ForInStep PUnit))
      pure ()) R E s := by
    refine wpAny_bind (wpAny_dictEntries a1 a3 (wpAny_bind (wpAny_dictEpoch a1 a3 (wpAny_bind ?_))))
    have hl : ea.size = qs.length := by rw [← a5.length, Array.length_toList]
    refine wpAny_forIn_list _ (fun rest _ t => ∃ g i, t = { s with heap := g } ∧ rest = (List.range ea.size).drop i ∧ i ≤ ea.size ∧ g.DictOf kd d (merged ps (qs.take i)) ∧ g.get? a = some oa ∧ Heap.SameBut d s.heap g) _ ?_ ?_ _ _
      ⟨s.heap, 0, rfl, rfl, Nat.zero_le _, hd, a1, Heap.SameBut.refl _ _⟩
    · rintro x rest _ t ⟨g, i, rfl, hr, hi, hg, ga, sb⟩
      have hi2 : i < ea.size := by
        rcases Nat.lt_or_ge i ea.size with q | q
        · exact q
        · rw [List.drop_eq_nil_of_le (by rw [List.length_range]; exact q)] at hr
          cases hr
      rw [List.drop_eq_getElem_cons (by rw [List.length_range]; exact hi2), List.getElem_range] at hr
      injection hr with e1 e2
      subst e1
      refine wpAny_bind (wpAny_dictEntries ga a3 ?_)
      obtain ⟨kx, hkx⟩ : ∃ y, qs[x]? = some y := ⟨_, List.getElem?_eq_getElem (by omega)⟩
      obtain ⟨k, v⟩ := kx
      have he : ea[x]? = some ea[x] := Array.getElem?_eq_getElem hi2
      obtain ⟨b1, b2⟩ := a5.get? (e := ea[x]) (by simp [hi2]) hkx
      obtain ⟨k2, b3, b4⟩ := a4 ea[x] (Array.getElem_mem hi2)
      have ek := kd.inj _ _ _ b3 b1
      rw [he]
      dsimp only
      rw [b4, b2, ek]
      have lz := merged_length_le ps (qs.take x)
      have lt : (qs.take x).length ≤ qs.length := by rw [List.length_take]; omega
      refine wpAny_bind (wpAny_holding (put_one b1 hg (by omega) fun g2 hg2 sb2 => ?_))
      have ga2 : g2.get? a = some oa := (sb2.2 a (Ne.symm ne)).trans ga
      refine wpAny_bind (wpAny_dictEpoch ga2 a3 ?_)
      rw [if_neg (by simp)]
      exact wpAny_pure ⟨g2, x + 1, rfl, e2, hi2, by rw [merged_take_succ ps qs x (k, v) hkx]; exact hg2, ga2, sb.trans sb2⟩
    · rintro _ t ⟨g, i, rfl, hr, hi, hg, ga, sb⟩
      have hi2 : i = ea.size := by
        have q := congrArg List.length hr
        rw [List.length_drop, List.length_range, List.length_nil] at q
        omega
      refine wpAny_pure (h g ?_ sb)
      rw [hi2, hl, List.take_length] at hg
      exact hg
  dsimp only
  by_cases hz : ed.isEmpty = true
  · rw [if_pos hz]
    refine wpAny_bind (wpAny_dictEntries a1 a3 (wpAny_bind ?_))
    refine wpAny_forIn_array' _ (fun l _ t => t = s ∧ ∀ e ∈ l, e ∈ ea) _ (fun e rest _ t hI => ?_) (fun _ t hI => ?_) _ _ ⟨rfl, fun e he => Array.mem_toList_iff.mp he⟩
    · obtain ⟨rfl, hm⟩ := hI
      have nr : ∀ x, e.key ≠ .ref x := fun x q => by
        obtain ⟨k, h1, _⟩ := a4 e (hm e (List.mem_cons_self ..))
        have := kd.byValue k _ h1
        rw [q] at this
        cases this
      cases hk : e.key with
      | ref x => exact absurd hk (nr x)
      | _ => exact wpAny_pure ⟨rfl, fun y hy => hm y (List.mem_cons_of_mem _ hy)⟩
    · obtain ⟨rfl, _⟩ := hI
      exact main
  · rw [if_neg hz]
    exact main
end
section
open PySem.Spec PyProof.Rows
/-- {**e, k: v} -/
def tDMerge (te tk tv : TE) : TE := fun σ H Q => ∀ p, H p = none → te σ (upd H p (.dK [])) fun x H1 => ∃ a kvs, x = .ref a ∧ Rd H1 a (.dK kvs) ∧ a ≠ p ∧ H1 p = some (.dK []) ∧
  ∀ q, H1 q = none → tk σ (upd (upd H1 p (.dK kvs)) q (.dK [])) fun y H2 => tv σ H2 fun v H3 => ∃ k, y = kV k ∧ H3 q = some (.dK []) ∧ H3 p = some (.dK kvs) ∧ kvs.length < sizeLine ∧ Q (.ref p) (upd (upd H3 q (.dK [(k, v)])) p (.dK (mergeK kvs [(k, v)])))
theorem pe_dmerge {X : Cx} {e k v : Expr} {pos : Pos} {te tk tv : TE} (he : PE X e te) (hk : PE X k tk) (hv : PE X v tv) : PE X (.Dict [none, some k] [e, v] pos) (tDMerge te tk tv) := by
  refine ⟨fun pins s σ H Q I h => ?_⟩
  rw [arm_eval_Dict]
  refine wpAny_bind (wpAny_standAt ?_)
  show wpAny _ _ (dictDisplay [(none, do let x ← eval e X.env; standAt pos; pure x), (some (eval k X.env), do let x ← eval v X.env; standAt pos; pure x)]) _ _ _
  unfold dictDisplay
  have hn := I.hok.fresh (Nat.le_refl s.heap.objs.size)
  have I1 := I.laid (a := s.heap.objs.size) (o := .dK []) (h' := s.heap.push { cls := .type "dict", data := .dict #[] }) (t' := s.toks) (fun _ _ q => Heap.get?_push_of_some _ q) (Nat.le_refl _) (dk_empty s.heap I.big)
  dsimp only
  rw [List.forIn_cons]
  dsimp only
  rw [if_pos (show (([] : List (Sem Value × Sem Value)).isEmpty) = true from rfl)]
  simp only [pure_bind, bind_assoc]
  refine wpAny_bind (wpAny_alloc ?_)
  refine wpAny_bind (wpAny_holding ?_)
  refine wpAny_bind (thn (he.run pins _ σ _ _ I1 (h _ hn)) fun u s1 ⟨x, H1, I2, rx, a, kvs, ex, ha, ne, hp, q⟩ => ?_)
  subst ex
  cases rx
  refine wpAny_bind (wpAny_standAt (wpAny_pure ?_))
  obtain ⟨za, lo, vs, rel, dd⟩ := dk_rd I2.hok ha
  obtain ⟨_, _, ws, rel0, dp⟩ := dk_of I2.hok hp
  cases rel0
  have mz : ([] : List (Key × Value)).length + vs.length ≤ sizeLine := by
    have := rel.length
    simp only [List.length_nil]
    omega
  refine wpAny_bind (wpAny_onRaise (wpAny_tryCatch (wpAny_onRaise (wpAny_holding (merge_map dp dd (Ne.symm ne) lo mz fun g hg sb => ?_)))))
  have nd : (vs.map (·.1)).Nodup := let ⟨_, _, _, _, _, _, _, _, n⟩ := dd; n
  rw [merged_nil_of_nodup vs nd] at hg
  obtain ⟨lp, _⟩ := dk_of I2.hok hp
  have hd : (s.heap.objs.size == sysModules) = false := beq_eq_false_iff_ne.mpr (Nat.ne_of_gt I.big)
  have I3 := d_write (t' := s1.toks) I2 (by rw [hp]; exact True.intro) sb (let ⟨o, _, _, ho, _⟩ := hg; ⟨o, ho⟩) (dk_new (H' := upd H1 s.heap.objs.size (.dK kvs)) za hd rel hg)
  rw [List.forIn_cons]
  dsimp only
  rw [if_neg (by rw [List.nil_append]; exact Bool.false_ne_true)]
  simp only [pure_bind, List.forIn_nil]
  rw [if_neg (by rw [List.nil_append]; exact Bool.false_ne_true)]
  simp only [bind_assoc, List.nil_append]
  refine wpAny_bind (wpAny_holding ?_)
  have hn3 := I3.hok.fresh (Nat.le_refl g.objs.size)
  have hn1 : H1 g.objs.size = none := by
    cases e : H1 g.objs.size with
    | none => rfl
    | some o =>
      by_cases z : g.objs.size = s.heap.objs.size
      · rw [z, upd_same] at hn3
        cases hn3
      · rw [upd_ne z, e] at hn3
        cases hn3
  have I4 := I3.laid (a := g.objs.size) (o := .dK []) (h' := g.push { cls := .type "dict", data := .dict #[] }) (t' := s1.toks) (fun _ _ q => Heap.get?_push_of_some _ q) (Nat.le_refl _) (dk_empty g I3.big)
  have q := q _ hn1
  refine wpAny_subDict (knd := mixKind X.prog X.w) (Nat.le_of_ble_eq_true rfl) (evalPairs_cons (thn (hk.run pins _ σ _ _ I4 q) fun ku s2 ⟨y, H2, I5, ry, q2⟩ => ?_))
  refine wpAny_bind (thn (hv.run pins s2 σ H2 _ I5 q2) fun vu s3 ⟨vv, H3, I6, rv, key, ek, hq, hp3, lk, q3⟩ => ?_)
  subst ek
  refine wpAny_bind (wpAny_standAt (wpAny_pure (evalPairs_nil ?_)))
  have qp : g.objs.size ≠ s.heap.objs.size := fun z => by
    rw [z, upd_same] at hn3
    cases hn3
  obtain ⟨_, lq, us, relq, dq⟩ := dk_of I6.hok hq
  cases relq
  refine ⟨[(key, vu)], ⟨kV_is ry, rfl, True.intro⟩, dq, fun h' dd' sb' => ?_⟩
  have one : KV [(key, vv)] [(key, vu)] := .cons ⟨rfl, rv⟩ .nil
  have I7 := d_write (t' := s3.toks + 1) I6 (by rw [hq]; exact True.intro) sb' (let ⟨o, _, _, ho, _⟩ := dd'; ⟨o, ho⟩) (dk_new (H' := upd H3 g.objs.size (.dK [(key, vv)])) (kvs := [(key, vv)]) (by show 1 ≤ sizeLine; decide) lq one dd')
  have hp7 : upd H3 g.objs.size (.dK [(key, vv)]) s.heap.objs.size = some (.dK kvs) := by
    rw [upd_ne (Ne.symm qp)]
    exact hp3
  obtain ⟨z7, l7, v7, rel7, d7⟩ := dk_of I7.hok hp7
  obtain ⟨_, _, w7, relw, e7⟩ := dk_of I7.hok (show upd H3 g.objs.size (.dK [(key, vv)]) g.objs.size = some (.dK [(key, vv)]) from upd_same)
  have mz7 : v7.length + w7.length ≤ sizeLine := by
    have h1 := rel7.length
    have h2 := relw.length
    simp only [List.length_cons, List.length_nil] at h2
    omega
  refine wpAny_bind (wpAny_onRaise (wpAny_holding (merge_map d7 e7 (Ne.symm qp) lq mz7 fun g2 hg2 sb2 => ?_)))
  simp only [pure_bind]
  have I8 := d_write (t' := s3.toks + 1) I7 (by rw [hp7]; exact True.intro) sb2 (let ⟨o, _, _, ho, _⟩ := hg2; ⟨o, ho⟩) (dk_new (H' := upd (upd H3 g.objs.size (.dK [(key, vv)])) s.heap.objs.size (.dK (mergeK kvs [(key, vv)]))) (kvs := mergeK kvs [(key, vv)]) (by
    have := length_mergeK [(key, vv)] kvs
    simp only [List.length_cons, List.length_nil] at this
    omega) hd (relw.merge rel7) hg2)
  exact wpAny_pure ⟨.ref s.heap.objs.size, _, I8, rfl, q3⟩
end
section
variable {P : Program} {w : World} {K : PySem.W.Frag} {mg : Str → Option Value} {base : Heap} {A : Ad}
def inR (lo hi c : Nat) : Bool := decide (lo ≤ c) && decide (c ≤ hi)
def runLen (p : Nat → Bool) : List Nat → Nat → Nat
  | c :: r, m + 1 => if p c then runLen p r m + 1 else 0
  | _, _ => 0
theorem runLen_step {p : Nat → Bool} {l : List Nat} {j m c : Nat} (h : l[j]? = some c) (hp : p c = true) (hm : 0 < m) : runLen p (l.drop j) m = 1 + runLen p (l.drop (j + 1)) (m - 1) := by
  obtain ⟨m, rfl⟩ : ∃ k, m = k + 1 := ⟨m - 1, by omega⟩
  obtain ⟨hj, e⟩ := List.getElem?_eq_some_iff.mp h
  rw [List.drop_eq_getElem_cons hj, e]
  show (if p c then _ else _) = _
  rw [if_pos hp, Nat.add_comm]
  rfl
theorem runLen_stop {p : Nat → Bool} {l : List Nat} {j m c : Nat} (h : l[j]? = some c) (hp : p c = false) : runLen p (l.drop j) m = 0 := by
  obtain ⟨hj, e⟩ := List.getElem?_eq_some_iff.mp h
  rw [List.drop_eq_getElem_cons hj, e]
  cases m with
  | zero => rfl
  | succ m =>
    show (if p c then _ else _) = _
    rw [hp] <;> rfl
theorem runLen_end {p : Nat → Bool} {l : List Nat} {j m : Nat} (h : l.length ≤ j) : runLen p (l.drop j) m = 0 := by
  rw [List.drop_eq_nil_of_le h]
  cases m <;> rfl
theorem runLen_zero {p : Nat → Bool} {l : List Nat} : runLen p l 0 = 0 := by
  cases l <;> rfl
theorem runLen_take (p : Nat → Bool) : ∀ (l : List Nat) (m : Nat), ((l.take m).takeWhile p).length = runLen p l m
  | [], m => by cases m <;> rfl
  | c :: r, 0 => rfl
  | c :: r, m + 1 => by
    rw [List.take_succ_cons, List.takeWhile_cons]
    show _ = (if p c then runLen p r m + 1 else 0)
    cases h : p c with
    | true =>
      rw [if_pos rfl, if_pos rfl, List.length_cons, runLen_take p r m]
    | false => rw [if_neg (by decide), if_neg (by decide)] <;> rfl
theorem runLen_congr {p q : Nat → Bool} (h : ∀ c, p c = q c) (l : List Nat) (m : Nat) : runLen p l m = runLen q l m := by
  rw [show p = q from funext h]
theorem lstrip_len (a b : Str) : (PySem.Txt.lstripChars a b).length + (a.cps.toList.takeWhile fun c => decide (c ∈ b.cps.toList)).length = a.length := by
  have e : PySem.Txt.lstripChars a b = PySem.Builtin.Str.strSub a (PySem.stripLo b.cps.contains true a) (PySem.stripHi b.cps.contains false a (PySem.stripLo b.cps.contains true a)) := PyProof.Rows.stripBy_eq _ _ _ _
  rw [e]
  have e1 : PySem.stripLo b.cps.contains true a = (a.cps.toList.takeWhile fun c => decide (c ∈ b.cps.toList)).length := by
    show (a.cps.toList.takeWhile b.cps.contains).length = _
    rw [show b.cps.contains = fun c => decide (c ∈ b.cps.toList) from funext fun c => by
      rw [← Array.contains_toList, List.contains_eq_mem]]
  have e2 : PySem.stripHi b.cps.contains false a (PySem.stripLo b.cps.contains true a) = a.length := rfl
  rw [e2, e1]
  have hle := PyProof.Rows.takeWhile_len_le (fun c => decide (c ∈ b.cps.toList)) a.cps.toList
  have ez := U.zlen a
  show (a.cps.extract _ a.length).size + _ = _
  rw [Array.size_extract]
  show min a.cps.size a.cps.size - _ + _ = a.cps.size
  have : a.cps.size = a.cps.toList.length := by simp
  omega
/-- the signs of a text -/
def memB (sg : Str) (c : Nat) : Bool := decide (c ∈ sg.cps.toList)
theorem memB_run {sg : Str} {lo n hi : Nat} (e : sg.cps.toList = List.range' lo n) (h : hi + 1 = lo + n) : memB sg = inR lo hi := by
  funext c
  unfold memB inR
  rw [e]
  by_cases h1 : lo ≤ c
  · by_cases h2 : c ≤ hi
    · rw [decide_eq_true (List.mem_range'_1.mpr ⟨h1, by omega⟩), decide_eq_true h1, decide_eq_true h2] <;> rfl
    · rw [decide_eq_false (fun q => h2 (by have := List.mem_range'_1.mp q; omega)), decide_eq_false h2, Bool.and_false]
  · rw [decide_eq_false (fun q => h1 (by have := List.mem_range'_1.mp q; omega)), decide_eq_false h1, Bool.false_and]
theorem mem_small : memB "abcdefghijklmnopqrstuvwxyz" = inR 97 122 := memB_run (lo := 97) (n := 26) (by decide +kernel) rfl
theorem mem_big : memB "ABCDEFGHIJKLMNOPQRSTUVWXYZ" = inR 65 90 := memB_run (lo := 65) (n := 26) (by decide +kernel) rfl
theorem mem_dig : memB "0123456789" = inR 48 57 := memB_run (lo := 48) (n := 10) (by decide +kernel) rfl
theorem mem_dig1 : memB "123456789" = inR 49 57 := memB_run (lo := 49) (n := 9) (by decide +kernel) rfl
theorem cut_listI (z : Str) (i j : Nat) : (cutS z (some (i : Int)) (some (j : Int))).cps.toList = (z.cps.toList.drop i).take (j - i) := by
  unfold cutS
  rw [HT.sIx_nat, HT.sIx_nat]
  have e := U.zlen z
  show (List.take (min j z.length - min i z.length) (List.drop (min i z.length) z.cps.toList)) = _
  by_cases hi : i ≤ z.length
  · rw [Nat.min_eq_left hi]
    by_cases hj : j ≤ z.length
    · rw [Nat.min_eq_left hj]
    · rw [Nat.min_eq_right (by omega), List.take_of_length_le (by rw [List.length_drop]; omega), List.take_of_length_le (by rw [List.length_drop]; omega)]
  · rw [Nat.min_eq_right (show z.length ≤ i by omega), List.drop_eq_nil_of_le (show z.cps.toList.length ≤ z.length by omega), List.drop_eq_nil_of_le (show z.cps.toList.length ≤ i by omega), List.take_nil, List.take_nil]
def spRun : Sp := fun vs H Q _ => ∃ (z : Str) (b : Nat) (g : Str) (m : Nat), vs = [.str z, .int b, .str g, .int m] ∧ z.length ≤ 10000 ∧ Q (.int ((b + runLen (memB g) (z.cps.toList.drop b) m : Nat) : Int)) H
theorem ok_run_end (T : Top w K mg A) : FnOk P w K mg base CX0 1 A.a_run_end A.fd_run_end ["text", "begin", "signs", "most"] spRun := by
  refine T.F_run_end.ok sc_run_end (fun vs H Q E h => ?_) (fun cdv A outer s H vs Q E hr h => ?_)
  · obtain ⟨z, b, g, m, rfl, _⟩ := h
    rfl
  · obtain ⟨z, b, g, m, rfl, hz, k⟩ := h
    refine ⟨_, (pss_cons (ps_set (i := 4) sc_run_end.nd rfl (Or.inl rfl) (pe_slice (U.uSl (K := K) rfl) (pv 0) (po_some (pv 1)) (po_some (pe_op U.uAdd (pv 1) (pv 3)))))
    (pss_one (ps_ret (pe_op op_sub (pe_op U.uAdd (pv 1) (pe_callB (U.uLen (K := K) rfl) (by rfl) T.n_len (by decide +kernel) (pa_cons (pv 4) pa_nil))) (pe_callB (U.uLen (K := K) rfl) (by rfl) T.n_len (by decide +kernel) (pa_cons (pe_bm PySem.F.plainAttrs_str PySem.F.slot_str_lstrip PySem.F.type_str_lstrip mt_lstripChars (pv 4) (pa_cons (pv 2) pa_nil)) pa_nil)))))), ?_⟩
    walk_at "w"
    have hl : (cutS z (some (b : Int)) (some ((b : Int) + (m : Int)))).length ≤ 10000 := Nat.le_trans (cutS_length z _ _) hz
    have e := lstrip_len (cutS z (some (b : Int)) (some ((b : Int) + (m : Int)))) g
    have e3 : (cutS z (some (b : Int)) (some ((b : Int) + (m : Int)))).cps.toList = (z.cps.toList.drop b).take m := by
      have := cut_listI z b (b + m)
      rw [show b + m - b = m by omega] at this
      exact this
    rw [e3, runLen_take] at e
    walk_at "w"
    refine And.intro (by first | rfl | trivial | exact ⟨_, rfl⟩) ?_
    have hl2 : (PySem.Txt.lstripChars (cutS z (some (b : Int)) (some ((b : Int) + (m : Int)))) g).length ≤ 10000 := by omega
    walk_at "w"
    refine And.intro (U.sz (by omega)) ?_
    walk_at "w"
    have e4 : ((b : Int) + ((cutS z (some (b : Int)) (some ((b : Int) + (m : Int)))).length : Int)) - ((PySem.Txt.lstripChars (cutS z (some (b : Int)) (some ((b : Int) + (m : Int)))) g).length : Int) = ((b + runLen (memB g) (z.cps.toList.drop b) m : Nat) : Int) := by
      have : runLen (memB g) (z.cps.toList.drop b) m = runLen (fun c => decide (c ∈ g.cps.toList)) (z.cps.toList.drop b) m := rfl
      omega
    rw [← e4] at k
    exact k
end
section
variable {P : Program} {w : World} {K : PySem.W.Frag} {mg : Str → Option Value} {base : Heap} {A : Ad}
theorem l_a : (Str.ofString "a") = (⟨#[97]⟩ : Str) := by decide +kernel
theorem l_z : (Str.ofString "z") = (⟨#[122]⟩ : Str) := by decide +kernel
theorem l_A : (Str.ofString "A") = (⟨#[65]⟩ : Str) := by decide +kernel
theorem l_Z : (Str.ofString "Z") = (⟨#[90]⟩ : Str) := by decide +kernel
theorem l_0 : (Str.ofString "0") = (⟨#[48]⟩ : Str) := by decide +kernel
theorem l_1 : (Str.ofString "1") = (⟨#[49]⟩ : Str) := by decide +kernel
theorem l_9 : (Str.ofString "9") = (⟨#[57]⟩ : Str) := by decide +kernel
theorem l_ar : (Str.ofString "->") = (⟨#[45, 62]⟩ : Str) := by decide +kernel
/-- a cut of one sign -/
theorem cut_list (z : Str) (i j : Nat) : (cutS z (some (i : Int)) (some (j : Int))).cps.toList = (z.cps.toList.drop i).take (j - i) := by
  unfold cutS
  rw [HT.sIx_nat, HT.sIx_nat]
  have e := U.zlen z
  show (List.take (min j z.length - min i z.length) (List.drop (min i z.length) z.cps.toList)) = _
  by_cases hi : i ≤ z.length
  · rw [Nat.min_eq_left hi]
    by_cases hj : j ≤ z.length
    · rw [Nat.min_eq_left hj]
    · rw [Nat.min_eq_right (by omega), List.take_of_length_le (by rw [List.length_drop]; omega), List.take_of_length_le (by rw [List.length_drop]; omega)]
  · rw [Nat.min_eq_right (show z.length ≤ i by omega), List.drop_eq_nil_of_le (show z.cps.toList.length ≤ z.length by omega), List.drop_eq_nil_of_le (show z.cps.toList.length ≤ i by omega), List.take_nil, List.take_nil]
theorem drop1 (l : List Nat) (i : Nat) : (l.drop i).take 1 = match l[i]? with | some c => [c] | none => [] := by
  by_cases h : i < l.length
  · rw [List.drop_eq_getElem_cons h, List.getElem?_eq_getElem h] <;> rfl
  · rw [List.drop_eq_nil_of_le (by omega), List.getElem?_eq_none (by omega)] <;> rfl
theorem cut1_is (z : Str) (i c : Nat) : cutS z (some (i : Int)) (some ((i : Int) + 1)) = (⟨#[c]⟩ : Str) ↔ z.cps.toList[i]? = some c := by
  have e : cutS z (some (i : Int)) (some ((i : Int) + 1)) = cutS z (some (i : Int)) (some ((i + 1 : Nat) : Int)) := rfl
  rw [e]
  have h := cut_list z i (i + 1)
  rw [show i + 1 - i = 1 by omega, drop1] at h
  constructor
  · intro q
    rw [q] at h
    cases hz : z.cps.toList[i]? with
    | none => rw [hz] at h; exact nomatch h
    | some d =>
      rw [hz] at h
      have h' : [c] = [d] := h
      rw [List.singleton_inj.mp h']
  · intro q
    rw [q] at h
    exact str_ext h
def wordEnd (l : List Nat) (b : Nat) : Nat :=
  if runLen (inR 97 122) (l.drop b) 6 = 0 ∨ l[b + runLen (inR 97 122) (l.drop b) 6]? = some 48 then b + runLen (inR 97 122) (l.drop b) 6
  else b + runLen (inR 97 122) (l.drop b) 6 + runLen (inR 48 57) (l.drop (b + runLen (inR 97 122) (l.drop b) 6)) 3
def tagEnd (l : List Nat) (b : Nat) : Nat := if runLen (inR 65 90) (l.drop b) 1 = 0 then b else b + 1 + runLen (inR 97 122) (l.drop (b + 1)) 5
def numEnd (l : List Nat) (b : Nat) : Nat := if l[b]? = some 48 then b + 1 else b + runLen (inR 48 57) (l.drop b) l.length
/-- a def from a text and a place to a place -/
def spEnd (f : List Nat → Nat → Nat) : Sp := fun vs H Q _ => ∃ (z : Str) (b : Nat), vs = [.str z, .int b] ∧ z.length ≤ 10000 ∧ ∀ H', Same H H' → Q (.int ((f z.cps.toList b : Nat) : Int)) H'
theorem cut1_list (z : Str) (i : Nat) : (cutS z (some (i : Int)) (some ((i : Int) + 1))).cps.toList = match z.cps.toList[i]? with | some c => [c] | none => [] := by
  have h := cut_list z i (i + 1)
  rw [show i + 1 - i = 1 by omega, drop1] at h
  exact h
theorem ok_word_end (T : Top w K mg A) : FnOk P w K mg base CX0 2 A.a_word_end A.fd_word_end ["text", "begin"] (spEnd wordEnd) := by
  refine T.F_word_end.ok sc_word_end (fun vs H Q E h => ?_) (fun cdv A outer s H vs Q E hr h => ?_)
  · obtain ⟨z, b, rfl, _⟩ := h
    rfl
  · obtain ⟨z, b, rfl, hz, k⟩ := h
    refine ⟨_, (pss_cons (ps_set (i := 2) sc_word_end.nd rfl (Or.inl rfl) (pe_call (ok_run_end T) (hr.mono (by decide)) rfl T.m_run_end T.F_run_end.kp T.b_run_end .nil pass0 (pa_cons (pv 0) (pa_cons (pv 1) (pa_cons (U.pe_con_ T.m_SMALL_LETTERS) (pa_cons pe_int pa_nil))))))
    (pss_cons (ps_if (PW.pt (pw_or (pt_cmpR (U.uEq (K := K) rfl hr.units) (pv 2) (pv 1) (nomark _)) (pw_or1 (pt_not (pt_chain U.uLe U.uLe pe_str (pe_slice (U.uSl (K := K) rfl) (pv 0) (po_some (pv 2)) (po_some (pe_op U.uAdd (pv 2) pe_int))) pe_str))))) (pss_one (ps_ret (pv 2))) pss_nil)
    (pss_one (ps_ret (pe_call (ok_run_end T) (hr.mono (by decide)) rfl T.m_run_end T.F_run_end.kp T.b_run_end .nil pass0 (pa_cons (pv 0) (pa_cons (pv 2) (pa_cons (U.pe_con_ T.m_DIGITS) (pa_cons pe_int pa_nil))))))))), ?_⟩
    walk_at "w"
    refine ⟨z, b, _, 6, rfl, hz, ?_⟩
    rw [mem_small]
    walk_at "w"
    have k := k H (Same.refl H)
    unfold wordEnd at k
    refine U.ifDi (fun h1 => ?_) (fun h1 => ?_)
    · walk_at "w"
      rw [if_pos (.inl (by omega))] at k
      exact k
    · walk_at "w"
      have h1 : ¬ runLen (inR 97 122) (z.cps.toList.drop b) 6 = 0 := fun q => h1 (by rw [q] <;> rfl)
      generalize hL : b + runLen (inR 97 122) (z.cps.toList.drop b) 6 = L at k ⊢
      have no : runLen (inR 48 57) (z.cps.toList.drop L) 3 = 0 ∨ z.cps.toList[L]? = some 48 → Q (.int (L : Int)) H := fun q => by
        split at k
        · exact k
        · rename_i n
          rcases q with q | q
          · rw [q, Nat.add_zero] at k
            exact k
          · exact absurd (.inr q) n
      cases hd : z.cps.toList[L]? with
      | none =>
        have e1 : cutS z (some (L : Int)) (some ((L : Int) + 1)) = (⟨#[]⟩ : Str) := str_ext (by rw [cut1_list, hd])
        rw [e1, l_1]
        refine U.ifB false (by decide) (iteF ?_)
        refine ⟨_, rfl, ?_⟩
        refine iteT ?_
        walk_at "w"
        exact no (.inl (runLen_end (by have := List.getElem?_eq_none_iff.mp hd; omega)))
      | some d =>
        have e1 := (cut1_is z L d).mpr hd
        rw [e1, l_1, l_9]
        refine U.ifB _ (U.le1 49 d) (U.ifD (fun h2 => ?_) (fun h2 => ?_))
        · walk_at "w"
          by_cases h3 : d ≤ 57
          · refine U.ifB false (by rw [U.le1 d 57, decide_eq_true h3] <;> rfl) (iteF ?_)
            walk_at "w"
            rw [if_neg (fun q => q.elim h1 fun q => by rw [hd] at q; have := Option.some.inj q; omega)] at k
            refine ⟨z, L, _, 3, rfl, hz, ?_⟩
            rw [mem_dig]
            exact k
          · refine U.ifB true (by rw [U.le1 d 57, decide_eq_false h3] <;> rfl) (iteT ?_)
            walk_at "w"
            refine no (.inl (runLen_stop hd ?_))
            unfold inR
            rw [decide_eq_false h3, Bool.and_false]
        · refine ⟨_, rfl, ?_⟩
          refine iteT ?_
          walk_at "w"
          by_cases h4 : d = 48
          · exact no (.inr (by rw [hd, h4]))
          · refine no (.inl (runLen_stop hd ?_))
            unfold inR
            rw [decide_eq_false (show ¬ 48 ≤ d by omega), Bool.false_and]
end
section
variable {P : Program} {w : World} {K : PySem.W.Frag} {mg : Str → Option Value} {base : Heap} {A : Ad}
/-- a def from a text to a truth -/
def spBl (f : Str → Bool) : Sp := fun vs H Q _ => ∃ z : Str, vs = [.str z] ∧ z.length ≤ 10000 ∧ ∀ H', Same H H' → Q (.bl (f z)) H'
def isNm (z : Str) : Bool := decide (cutS z none (some 1) = Str.ofString "'")
theorem ok_is_name (T : Top w K mg A) : FnOk P w K mg base CX0 1 A.a_is_name A.fd_is_name ["factor"] (spBl isNm) := by
  refine T.F_is_name.ok sc_is_name (fun vs H Q E h => ?_) (fun cdv A outer s H vs Q E hr h => ?_)
  · obtain ⟨z, rfl, _⟩ := h
    rfl
  · obtain ⟨z, rfl, hz, k⟩ := h
    refine ⟨_, (pss_one (ps_ret (pe_cmpR (U.uEq (K := K) rfl hr.units) (pe_slice (U.uSl (K := K) rfl) (pv 0) po_none (po_some pe_int)) pe_str (nomark _)))), ?_⟩
    walk_at "w"
    have k := k H (Same.refl H)
    have e : isNm z = decide (V.str (cutS z none (some 1)) = V.str (Str.ofString "'")) := by
      unfold isNm
      exact decide_eq_decide.mpr ⟨fun h => by rw [h], fun h => V.str.inj h⟩
    rw [e] at k
    exact k
/-- a def from any value to a truth: a text is judged by f, what is no text is none -/
def spAny (K : PySem.W.Frag) (f : Str → Bool) : Sp := fun vs H Q _ => ∃ v, vs = [v] ∧ ((∃ z : Str, v = .str z ∧ z.length ≤ 10000 ∧ ∀ H', Same H H' → Q (.bl (f z)) H') ∨
  ∃ t, TyX K H v t ∧ PySem.W.kitOne K t (.type "str") = some false ∧ ∀ H', Same H H' → Q (.bl false) H')
theorem in_strs (z : Str) : ∀ xs : List Str, inV (V.str z) (xs.map V.str) = decide (z ∈ xs)
  | [] => rfl
  | x :: xs => by
    show (eqV (V.str x) (V.str z) || inV (V.str z) (xs.map V.str)) = _
    rw [in_strs z xs]
    have e : eqV (V.str x) (V.str z) = decide (z = x) := by
      show (x == z) = _
      rw [Bool.eq_iff_iff, decide_eq_true_eq, beq_iff_eq]
      exact ⟨fun h => h.symm, fun h => h.symm⟩
    rw [e, ← Bool.decide_or]
    exact decide_eq_decide.mpr List.mem_cons.symm
def ownW : List Str := ["fn", "let", "in", "rec", "match", "with", "fail", "num"]
def isW (z : Str) : Bool := decide (z ≠ Str.ofString "") && (decide (wordEnd z.cps.toList 0 = z.length) && !decide (z ∈ ownW))
theorem ascii_one : ∀ c : Fin 128, Unicode.isAlpha c.1 = (inR 65 90 c.1 || inR 97 122 c.1) ∧ Unicode.isLower c.1 = inR 97 122 c.1 ∧ Unicode.isUpper c.1 = inR 65 90 c.1 ∧ Unicode.isTitle c.1 = false := by decide +kernel
def lowS (z : Str) : Bool := z.cps.toList.all (inR 97 122)
theorem low_yes {z : Str} (h : lowS z = true) (h0 : 0 < z.length) : PySem.Txt.isascii z = true ∧ PySem.Txt.isalpha z = true ∧ PySem.Txt.islower z = true := by
  have hc : ∀ c ∈ z.cps.toList, 97 ≤ c ∧ c ≤ 122 := fun c hc => by
    have := List.all_eq_true.mp h c hc
    unfold inR at this
    rw [Bool.and_eq_true] at this
    exact ⟨of_decide_eq_true this.1, of_decide_eq_true this.2⟩
  have ez := U.zlen z
  have tr : ∀ f : Nat → Bool, z.cps.all f = z.cps.toList.all f := fun f => by simp
  have tr2 : ∀ f : Nat → Bool, z.cps.any f = z.cps.toList.any f := fun f => by simp
  refine ⟨?_, ?_, ?_⟩
  · show z.cps.all _ = true
    rw [tr]
    exact List.all_eq_true.mpr fun c q => decide_eq_true (by have := hc c q; omega)
  · show (decide (z.length > 0) && z.cps.all _) = true
    rw [tr, decide_eq_true h0, Bool.true_and]
    refine List.all_eq_true.mpr fun c q => ?_
    have b := hc c q
    rw [(ascii_one ⟨c, by omega⟩).1]
    have := List.all_eq_true.mp h c q
    rw [this, Bool.or_true]
  · show (z.cps.any _ && !z.cps.any _) = true
    rw [tr2, tr2]
    have e1 : z.cps.toList.any Unicode.isLower = true := by
      cases e : z.cps.toList with
      | nil =>
        rw [e] at ez
        have : z.length = 0 := ez
        omega
      | cons c r =>
        have hm : c ∈ z.cps.toList := by rw [e]; exact List.mem_cons_self ..
        have b := hc c hm
        rw [List.any_cons, (ascii_one ⟨c, by omega⟩).2.1, List.all_eq_true.mp h c hm] <;> rfl
    have e2 : z.cps.toList.any (fun c => Unicode.isUpper c || Unicode.isTitle c) = false := List.any_eq_false.mpr fun c q => by
      have b := hc c q
      rw [(ascii_one ⟨c, by omega⟩).2.2.1, (ascii_one ⟨c, by omega⟩).2.2.2]
      unfold inR
      rw [decide_eq_false (show ¬ c ≤ 90 by omega), Bool.and_false]
      decide
    rw [e1, e2] <;> rfl
theorem low_of {z : Str} (h1 : PySem.Txt.isascii z = true) (h2 : PySem.Txt.isalpha z = true) (h3 : PySem.Txt.islower z = true) : lowS z = true := by
  have tr : ∀ f : Nat → Bool, z.cps.all f = z.cps.toList.all f := fun f => by simp
  have tr2 : ∀ f : Nat → Bool, z.cps.any f = z.cps.toList.any f := fun f => by simp
  have h1 : z.cps.all _ = true := h1
  have h2 : (decide (z.length > 0) && z.cps.all _) = true := h2
  have h3 : (z.cps.any _ && !z.cps.any _) = true := h3
  rw [tr] at h1
  rw [tr, Bool.and_eq_true] at h2
  rw [tr2, tr2, Bool.and_eq_true] at h3
  refine List.all_eq_true.mpr fun c q => ?_
  have a1 : c < 128 := of_decide_eq_true (List.all_eq_true.mp h1 c q)
  have a2 := List.all_eq_true.mp h2.2 c q
  have a3 : z.cps.toList.any (fun c => Unicode.isUpper c || Unicode.isTitle c) = false := by
    have := h3.2
    rw [Bool.not_eq_true'] at this
    exact this
  have a4 := List.any_eq_false.mp a3 c q
  rw [(ascii_one ⟨c, a1⟩).1] at a2
  rw [(ascii_one ⟨c, a1⟩).2.2.1] at a4
  cases e : inR 65 90 c with
  | true =>
    rw [e] at a4
    exact absurd rfl a4
  | false =>
    rw [e] at a2
    exact a2
theorem runLen_allD {p : Nat → Bool} : ∀ {l : List Nat} {m : Nat}, (∀ c ∈ l, p c = true) → runLen p l m = min l.length m
  | [], m, _ => by cases m <;> rfl
  | c :: r, 0, _ => rfl
  | c :: r, m + 1, h => by
    show (if p c then runLen p r m + 1 else 0) = _
    rw [if_pos (h c (List.mem_cons_self ..)), runLen_allD fun q hq => h q (List.mem_cons_of_mem _ hq), List.length_cons]
    omega
theorem word_low {z : Str} (h : lowS z = true) (h0 : 0 < z.length) : wordEnd z.cps.toList 0 = min z.length 6 := by
  have ez := U.zlen z
  have ha : ∀ c ∈ z.cps.toList, inR 97 122 c = true := fun c q => List.all_eq_true.mp h c q
  have r : runLen (inR 97 122) (z.cps.toList.drop 0) 6 = min z.length 6 := by
    rw [List.drop_zero, runLen_allD ha, ← ez]
  unfold wordEnd
  rw [r, Nat.zero_add]
  have hd : ∀ c, z.cps.toList[min z.length 6]? = some c → inR 97 122 c = true := fun c q => ha c (List.mem_of_getElem? q)
  rw [if_neg (fun q => q.elim (fun q => by omega) fun q => by have := hd 48 q; revert this; decide)]
  have e : runLen (inR 48 57) (z.cps.toList.drop (min z.length 6)) 3 = 0 := by
    cases e : z.cps.toList[min z.length 6]? with
    | none => exact runLen_end (List.getElem?_eq_none_iff.mp e)
    | some c =>
      refine runLen_stop e ?_
      have b := hd c e
      unfold inR at b ⊢
      rw [Bool.and_eq_true] at b
      have b1 := of_decide_eq_true b.1
      rw [decide_eq_false (show ¬ c ≤ 57 by omega), Bool.and_false]
  rw [e, Nat.add_zero]
theorem own_atD (A : Ad) (z : Str) : (tabGet (kv_OWN_WORDS A) z).isSome = decide (z ∈ ownW) := by
  have e : ∀ l : List Str, (tabGet (l.map fun s => (s, V.bl true)) z).isSome = decide (z ∈ l) := fun l => by
    induction l with
    | nil => rfl
    | cons s r ih =>
      unfold tabGet
      rw [List.map_cons]
      cases hb : s == z with
      | true =>
        rw [List.find?_cons_of_pos (by exact hb)]
        rw [decide_eq_true (by rw [eq_of_beq hb]; exact List.mem_cons_self ..)] <;> rfl
      | false =>
        rw [List.find?_cons_of_neg (by exact fun q => by rw [hb] at q; cases q)]
        have ih' : ((r.map fun s => (s, V.bl true)).find? fun p => p.1 == z).isSome = decide (z ∈ r) := by
          rw [← ih]
          unfold tabGet
          rw [Option.isSome_map]
        rw [Option.isSome_map, ih']
        refine decide_eq_decide.mpr ⟨fun q => List.mem_cons_of_mem _ q, fun q => ?_⟩
        rcases List.mem_cons.mp q with q | q
        · rw [q, beq_self_eq_true] at hb
          cases hb
        · exact q
  exact e ["fn", "let", "in", "rec", "match", "with", "fail", "num"]
theorem ok_is_word (T : Top w K mg A) : FnOk P w K mg base CX0 3 A.a_is_word A.fd_is_word ["value"] (spAny K isW) := by
  refine T.F_is_word.ok sc_is_word (fun vs H Q E h => ?_) (fun cdv A outer s H vs Q E hr h => ?_)
  · obtain ⟨z, rfl, _⟩ := h
    rfl
  · obtain ⟨v, rfl, h⟩ := h
    refine ⟨_, (pss_cons (ps_if (PW.pt (pw_or (pt_not (pt_val (pe_callB call_isi (by rfl) T.n_isinstance (by decide +kernel) (pa_cons (pv 0) (pa_cons (pe_bltn (v := .ty "str") (by rfl) T.n_str (by decide +kernel) rfl) pa_nil))))) (pw_or (pt_cmpR (U.uEq (K := K) rfl hr.units) (pv 0) pe_str (nomark _)) (pw_or1 (pt_cmpR (op_inT (K := K) (w := w) rfl rfl) (pv 0) (U.pe_con_ T.m_OWN_WORDS) rfl))))) (pss_one (ps_ret pe_bl)) pss_nil)
    (pss_cons (ps_if (PW.pt (pw_and (pt_val (pe_m0 PySem.F.slot_str_isascii PySem.F.type_str_isascii mt_isascii (pv 0))) (pw_and (pt_val (pe_m0 PySem.F.slot_str_isalpha PySem.F.type_str_isalpha mt_isalpha (pv 0))) (pw_and1 (pt_val (pe_m0 PySem.F.slot_str_islower PySem.F.type_str_islower mt_islower (pv 0))))))) (pss_one (ps_ret (pe_cmpR U.uLe (pe_callB (U.uLen (K := K) rfl) (by rfl) T.n_len (by decide +kernel) (pa_cons (pv 0) pa_nil)) pe_int (nomark _)))) pss_nil)
    (pss_one (ps_ret (pe_cmpR (U.uEq (K := K) rfl hr.units) (pe_call (ok_word_end T) (hr.mono (by decide)) rfl T.m_word_end T.F_word_end.kp T.b_word_end .nil pass0 (pa_cons (pv 0) (pa_cons pe_int pa_nil))) (pe_callB (U.uLen (K := K) rfl) (by rfl) T.n_len (by decide +kernel) (pa_cons (pv 0) pa_nil)) (nomark _)))))), ?_⟩
    walk_at "w"
    rcases h with ⟨z, rfl, hz, k⟩ | ⟨t, ty, hk, k⟩
    · refine ⟨_, _, _, _, true, rfl, .ty _, .base (.str _), kit_ty (a := "str") (b := "str") (by decide +kernel), ?_⟩
      walk_at "w"
      refine U.ifDs (fun h1 => ?_) (fun h1 => ?_)
      · walk_at "w"
        have k := k H (Same.refl H)
        have e : isW z = false := by
          unfold isW
          rw [decide_eq_false (not_not_intro h1)]
          rfl
        rw [e] at k
        exact k
      · walk_at "w"
        refine ⟨_, _, _, rfl, rfl, T.q_OWN_WORDS, ?_⟩
        walk_at "w"
        rw [own_atD]
        refine U.ifD (fun h2 => ?_) (fun h2 => ?_)
        · walk_at "w"
          have e : isW z = false := by
            unfold isW
            rw [decide_eq_true h2, Bool.not_true, Bool.and_false, Bool.and_false]
          have k := k H (Same.refl H)
          rw [e] at k
          exact k
        · have h0 : 0 < z.length := by
            have ez := U.zlen z
            rcases Nat.eq_zero_or_pos z.length with q | q
            · exact absurd (str_ext (show z.cps.toList = _ by rw [List.length_eq_zero_iff.mp (ez.symm.trans q)] <;> rfl)) h1
            · exact q
          have ek : isW z = decide (wordEnd z.cps.toList 0 = z.length) := by
            unfold isW
            rw [decide_eq_true h1, decide_eq_false h2, Bool.true_and, Bool.not_false, Bool.and_true]
          rw [ek] at k
          walk_at "w"
          have fin : ∀ H1, Same H H1 → Q (.bl (decide (V.int ((wordEnd z.cps.toList 0 : Nat) : Int) = V.int (z.length : Int)))) H1 := fun H1 s1 => by
            rw [show decide (V.int ((wordEnd z.cps.toList 0 : Nat) : Int) = V.int (z.length : Int)) = decide (wordEnd z.cps.toList 0 = z.length) from decide_eq_decide.mpr ⟨fun q => Int.ofNat.inj (V.int.inj q), fun q => by rw [q]⟩]
            exact k H1 s1
          refine ⟨⟨_, rfl⟩, _, rfl, rfl, trivial, _, rfl, ?_⟩
          refine U.ifBl (fun h3 => ?_) (fun h3 => ?_)
          · walk_at "w"
            refine ⟨⟨_, rfl⟩, _, rfl, rfl, trivial, _, rfl, ?_⟩
            refine U.ifBl (fun h4 => ?_) (fun h4 => ?_)
            · walk_at "w"
              refine ⟨⟨_, rfl⟩, _, rfl, rfl, trivial, _, rfl, ?_⟩
              refine U.ifBl (fun h5 => ?_) (fun h5 => ?_)
              · walk_at "w"
                have hl := word_low (low_of h3 h4 h5) h0
                have k := k H (Same.refl H)
                rw [hl, show decide (min z.length 6 = z.length) = decide ((z.length : Int) ≤ 6) from decide_eq_decide.mpr (by omega)] at k
                exact k
              · walk_at "w"
                intro H1 s1
                walk_at "w"
                exact fin H1 s1
            · walk_at "w"
              intro H1 s1
              walk_at "w"
              exact fin H1 s1
          · walk_at "w"
            intro H1 s1
            walk_at "w"
            exact fin H1 s1
    · refine ⟨_, _, _, _, false, rfl, .ty _, ty, hk, ?_⟩
      walk_at "w"
      exact k H (Same.refl H)
end
section
variable {P : Program} {w : World} {K : PySem.W.Frag} {mg : Str → Option Value} {base : Heap} {A : Ad}
theorem tyX_same {H H1 : Hp} {v : V} {t : Value} (h : TyX K H v t) (s : Same H H1) : TyX K H1 v t := by
  cases h with
  | base b =>
    cases b with
    | non => exact .base .non
    | bl x => exact .base (.bl x)
    | int i => exact .base (.int i)
    | str x => exact .base (.str x)
    | flt x => exact .base (.flt x)
    | lst e => exact .base (.lst (s _ _ e))
    | frz e => exact .base (.frz (s _ _ e))
    | tup e => exact .base (.tup (s _ _ e))
    | dK e => exact .base (.dK (s _ _ e))
    | dT e => exact .base (.dT (s _ _ e))
    | ins e a b c d f => exact .base (.ins (s _ _ e) a b c d f)
  | byt b => exact .byt b
  | set e => exact .set (s _ _ e)
  | kList e c => exact .kList e c
  | kTuple e c => exact .kTuple e c
  | kDict e c => exact .kDict e c
  | fTuple e => exact .fTuple (s _ _ e)
  | fDict e => exact .fDict (s _ _ e)
def isKN (z : Str) : Bool := isNm z && isW (cutS z (some 1) none)
def isF (z : Str) : Bool := isW z || isKN z
theorem isNm_is (z : Str) : isNm z = decide (V.str (cutS z none (some 1)) = V.str (Str.ofString "'")) := by
  unfold isNm
  exact decide_eq_decide.mpr ⟨fun h => by rw [h], fun h => V.str.inj h⟩
theorem cut_le (z : Str) (i j : Option Int) (h : z.length ≤ 10000) : (cutS z i j).length ≤ 10000 := by
  have e1 := U.zlen (cutS z i j)
  have e2 := U.zlen z
  have e3 : (cutS z i j).cps.toList.length ≤ z.cps.toList.length := by
    unfold cutS
    simp only [List.length_take, List.length_drop]
    omega
  omega
theorem ok_is_kind_name (T : Top w K mg A) : FnOk P w K mg base CX0 4 A.a_is_kind_name A.fd_is_kind_name ["value"] (spAny K isKN) := by
  refine T.F_is_kind_name.ok sc_is_kind_name (fun vs H Q E h => ?_) (fun cdv A outer s H vs Q E hr h => ?_)
  · obtain ⟨z, rfl, _⟩ := h
    rfl
  · obtain ⟨v, rfl, h⟩ := h
    refine ⟨_, (pss_one (ps_ret (pe_and (pe_callB call_isi (by rfl) T.n_isinstance (by decide +kernel) (pa_cons (pv 0) (pa_cons (pe_bltn (v := .ty "str") (by rfl) T.n_str (by decide +kernel) rfl) pa_nil))) (pe_and (pe_cmpR (U.uEq (K := K) rfl hr.units) (pe_slice (U.uSl (K := K) rfl) (pv 0) po_none (po_some pe_int)) pe_str (nomark _)) (pe_one (pe_call (ok_is_word T) (hr.mono (by decide)) rfl T.m_is_word T.F_is_word.kp T.b_is_word .nil pass0 (pa_cons (pe_slice (U.uSl (K := K) rfl) (pv 0) (po_some pe_int) po_none) pa_nil))))))), ?_⟩
    walk_at "w"
    rcases h with ⟨z, rfl, hz, k⟩ | ⟨t, ty, hk, k⟩
    · refine ⟨_, _, _, _, true, rfl, .ty _, .base (.str _), kit_ty (a := "str") (b := "str") (by decide +kernel), ?_⟩
      walk_at "w"
      refine U.ifDs (fun h1 => ?_) (fun h1 => ?_)
      · walk_at "w"
        refine Or.inl ⟨_, rfl, cut_le z _ _ hz, fun H' s' => ?_⟩
        have k := k H' s'
        unfold isKN at k
        rw [isNm_is, decide_eq_true (congrArg V.str h1), Bool.true_and] at k
        exact k
      · walk_at "w"
        have k := k H (Same.refl H)
        unfold isKN at k
        rw [isNm_is, decide_eq_false (fun q => h1 (V.str.inj q)), Bool.false_and] at k
        exact k
    · refine ⟨_, _, _, _, false, rfl, .ty _, ty, hk, ?_⟩
      walk_at "w"
      exact k H (Same.refl H)
theorem ok_is_integer (T : Top w K mg A) : FnOk P w K mg base CX0 1 A.a_is_integer A.fd_is_integer ["value"] (fun vs H Q _ => ∃ v t b1 b2, vs = [v] ∧ TyX K H v t ∧ PySem.W.kitOne K t (.type "int") = some b1 ∧ PySem.W.kitOne K t (.type "bool") = some b2 ∧ Q (.bl (b1 && !b2)) H) := by
  refine T.F_is_integer.ok sc_is_integer (fun vs H Q E h => ?_) (fun cdv A outer s H vs Q E hr h => ?_)
  · obtain ⟨v, t, b1, b2, rfl, _⟩ := h
    rfl
  · obtain ⟨v, t, b1, b2, rfl, ty, k1, k2, k⟩ := h
    refine ⟨_, (pss_one (ps_ret (pe_and (pe_callB call_isi (by rfl) T.n_isinstance (by decide +kernel) (pa_cons (pv 0) (pa_cons (pe_bltn (v := .ty "int") (by rfl) T.n_int (by decide +kernel) rfl) pa_nil))) (pe_one (pe_not (pe_callB call_isi (by rfl) T.n_isinstance (by decide +kernel) (pa_cons (pv 0) (pa_cons (pe_bltn (v := .ty "bool") (by rfl) T.n_bool (by decide +kernel) rfl) pa_nil)))))))), ?_⟩
    walk_at "w"
    refine ⟨_, _, _, _, b1, rfl, .ty _, ty, k1, ?_⟩
    cases b1 with
    | false =>
      walk_at "w"
      exact k
    | true =>
      walk_at "w"
      refine ⟨_, _, _, _, b2, rfl, .ty _, ty, k2, ?_⟩
      walk_at "w"
      exact k
theorem ok_is_factor (T : Top w K mg A) : FnOk P w K mg base CX0 5 A.a_is_factor A.fd_is_factor ["value"] (spAny K isF) := by
  refine T.F_is_factor.ok sc_is_factor (fun vs H Q E h => ?_) (fun cdv A outer s H vs Q E hr h => ?_)
  · obtain ⟨z, rfl, _⟩ := h
    rfl
  · obtain ⟨v, rfl, h⟩ := h
    refine ⟨_, (pss_one (ps_ret (pe_or (pe_call (ok_is_word T) (hr.mono (by decide)) rfl T.m_is_word T.F_is_word.kp T.b_is_word .nil pass0 (pa_cons (pv 0) pa_nil)) (pe_one (pe_call (ok_is_kind_name T) (hr.mono (by decide)) rfl T.m_is_kind_name T.F_is_kind_name.kp T.b_is_kind_name .nil pass0 (pa_cons (pv 0) pa_nil)))))), ?_⟩
    walk_at "w"
    rcases h with ⟨z, rfl, hz, k⟩ | ⟨t, ty, hk, k⟩
    · refine Or.inl ⟨_, rfl, hz, fun H1 s1 => ?_⟩
      unfold isF at k
      walk_at "w"
      cases e : isW z with
      | true =>
        rw [e, Bool.true_or] at k
        walk_at "w"
        exact k H1 s1
      | false =>
        rw [e, Bool.false_or] at k
        walk_at "w"
        refine Or.inl ⟨_, rfl, hz, fun H2 s2 => ?_⟩
        exact k H2 (s1.trans s2)
    · refine Or.inr ⟨t, ty, hk, fun H1 s1 => ?_⟩
      walk_at "w"
      exact Or.inr ⟨t, tyX_same ty s1, hk, fun H2 s2 => k H2 (s1.trans s2)⟩
end
section
variable {P : Program} {w : World} {K : PySem.W.Frag} {mg : Str → Option Value} {base : Heap} {A : Ad}
theorem ok_tag_end (T : Top w K mg A) : FnOk P w K mg base CX0 2 A.a_tag_end A.fd_tag_end ["text", "begin"] (spEnd tagEnd) := by
  refine T.F_tag_end.ok sc_tag_end (fun vs H Q E h => ?_) (fun cdv A outer s H vs Q E hr h => ?_)
  · obtain ⟨z, b, rfl, hz, k⟩ := h
    rfl
  · obtain ⟨z, b, rfl, hz, k⟩ := h
    refine ⟨_, (pss_cons (ps_if (pt_cmpR (U.uEq (K := K) rfl hr.units) (pe_call (ok_run_end T) (hr.mono (by decide)) rfl T.m_run_end T.F_run_end.kp T.b_run_end .nil pass0 (pa_cons (pv 0) (pa_cons (pv 1) (pa_cons (U.pe_con_ T.m_CAPITALS) (pa_cons pe_int pa_nil))))) (pv 1) (nomark _)) (pss_one (ps_ret (pv 1))) pss_nil)
    (pss_one (ps_ret (pe_call (ok_run_end T) (hr.mono (by decide)) rfl T.m_run_end T.F_run_end.kp T.b_run_end .nil pass0 (pa_cons (pv 0) (pa_cons (pe_op U.uAdd (pv 1) pe_int) (pa_cons (U.pe_con_ T.m_SMALL_LETTERS) (pa_cons pe_int pa_nil)))))))), ?_⟩
    walk_at "w"
    refine ⟨z, b, _, 1, rfl, hz, ?_⟩
    rw [mem_big]
    walk_at "w"
    have k := k H (Same.refl H)
    unfold tagEnd at k
    refine U.ifDi (fun h1 => ?_) (fun h1 => ?_)
    · walk_at "w"
      rw [if_pos (by omega)] at k
      exact k
    · walk_at "w"
      rw [if_neg (by omega)] at k
      refine ⟨z, b + 1, _, 5, rfl, hz, ?_⟩
      rw [mem_small]
      exact k
def isTg (z : Str) : Bool := decide (z ≠ Str.ofString "") && decide (tagEnd z.cps.toList 0 = z.length)
theorem ok_is_tag (T : Top w K mg A) : FnOk P w K mg base CX0 3 A.a_is_tag A.fd_is_tag ["value"] (spAny K isTg) := by
  refine T.F_is_tag.ok sc_is_tag (fun vs H Q E h => ?_) (fun cdv A outer s H vs Q E hr h => ?_)
  · obtain ⟨v, rfl, h⟩ := h
    rfl
  · obtain ⟨v, rfl, h⟩ := h
    refine ⟨_, (pss_one (ps_ret (pe_and (pe_callB call_isi (by rfl) T.n_isinstance (by decide +kernel) (pa_cons (pv 0) (pa_cons (pe_bltn (v := .ty "str") (by rfl) T.n_str (by decide +kernel) rfl) pa_nil))) (pe_and (pe_cmpR (U.uNe (K := K) rfl hr.units) (pv 0) pe_str (nomark _)) (pe_one (pe_cmpR (U.uEq (K := K) rfl hr.units) (pe_call (ok_tag_end T) (hr.mono (by decide)) rfl T.m_tag_end T.F_tag_end.kp T.b_tag_end .nil pass0 (pa_cons (pv 0) (pa_cons pe_int pa_nil))) (pe_callB (U.uLen (K := K) rfl) (by rfl) T.n_len (by decide +kernel) (pa_cons (pv 0) pa_nil)) (nomark _))))))), ?_⟩
    walk_at "w"
    rcases h with ⟨z, rfl, hz, k⟩ | ⟨t, ty, hk, k⟩
    · refine ⟨_, _, _, _, true, rfl, .ty _, .base (.str _), kit_ty (a := "str") (b := "str") (by decide +kernel), ?_⟩
      unfold isTg at k
      walk_at "w"
      by_cases h1 : z = Str.ofString ""
      · rw [decide_eq_true (congrArg V.str h1)]
        have k := k H (Same.refl H)
        rw [decide_eq_false (not_not_intro h1), Bool.false_and] at k
        walk_at "w"
        exact k
      · rw [decide_eq_false (fun q => h1 (V.str.inj q))]
        rw [decide_eq_true h1, Bool.true_and] at k
        walk_at "w"
        intro H1 s1
        walk_at "w"
        have k := k H1 s1
        rw [show decide (V.int ((tagEnd z.cps.toList 0 : Nat) : Int) = V.int (z.length : Int)) = decide (tagEnd z.cps.toList 0 = z.length) from decide_eq_decide.mpr ⟨fun h => Int.ofNat.inj (V.int.inj h), fun h => by rw [h]⟩]
        exact k
    · refine ⟨_, _, _, _, false, rfl, .ty _, ty, hk, ?_⟩
      walk_at "w"
      exact k H (Same.refl H)
/-- the last sign is a small letter -/
def lastLow (z : Str) : Bool := match z.cps.toList[z.length - 1]? with
  | some c => inR 97 122 c
  | none => false
def isPW (z : Str) : Bool := isW z && lastLow z
theorem ok_is_plain_word (T : Top w K mg A) : FnOk P w K mg base CX0 4 A.a_is_plain_word A.fd_is_plain_word ["value"] (spAny K isPW) := by
  refine T.F_is_plain_word.ok sc_is_plain_word (fun vs H Q E h => ?_) (fun cdv A outer s H vs Q E hr h => ?_)
  · obtain ⟨v, rfl, h⟩ := h
    rfl
  · obtain ⟨v, rfl, h⟩ := h
    refine ⟨_, (pss_one (ps_ret (pe_and (pe_call (ok_is_word T) (hr.mono (by decide)) rfl T.m_is_word T.F_is_word.kp T.b_is_word .nil pass0 (pa_cons (pv 0) pa_nil)) (pe_one (pe_chain U.uLe U.uLe pe_str (pe_ix (U.uIx (K := K) rfl) (pv 0) (pe_un un_neg pe_int) (fun _ _ => rfl)) pe_str))))), ?_⟩
    walk_at "w"
    rcases h with ⟨z, rfl, hz, k⟩ | ⟨t, ty, hk, k⟩
    · refine Or.inl ⟨_, rfl, hz, fun H1 s1 => ?_⟩
      unfold isPW at k
      cases e : isW z with
      | false =>
        rw [e, Bool.false_and] at k
        walk_at "w"
        exact k H1 s1
      | true =>
        rw [e, Bool.true_and] at k
        have ez := U.zlen z
        have hpos : 0 < z.length := by
          refine Nat.pos_of_ne_zero fun h0 => ?_
          unfold isW at e
          have : z = Str.ofString "" := by
            refine str_ext ?_
            rw [List.eq_nil_of_length_eq_zero (show z.cps.toList.length = 0 by omega)]
            rfl
          rw [this] at e
          exact absurd e (by decide +kernel)
        obtain ⟨c, hc⟩ : ∃ c, z.cps.toList[z.length - 1]? = some c := ⟨_, List.getElem?_eq_getElem (by omega)⟩
        have k := k H1 s1
        unfold lastLow at k
        rw [hc] at k
        walk_at "w"
        refine Or.inr (Or.inr ⟨z, _, c, rfl, rfl, U.sz (by omega), ?_, ?_⟩)
        · unfold atI ixN
          rw [if_neg (by decide), if_pos (by omega)]
          show z.cps.toList[((-1 : Int) + (z.cps.toList.length : Int)).toNat]? = some c
          rw [show ((-1 : Int) + (z.cps.toList.length : Int)).toNat = z.length - 1 by omega]
          exact hc
        have k : Q (.bl (inR 97 122 c)) H1 := k
        unfold inR at k
        rw [l_a]
        walk_at "w"
        refine U.ifB _ (U.le1 _ _) (U.ifD (fun h3 => ?_) (fun h3 => ?_))
        · rw [decide_eq_true h3, Bool.true_and] at k
          rw [l_z]
          walk_at "w"
          rw [U.le1]
          exact k
        · rw [decide_eq_false h3, Bool.false_and] at k
          exact k
    · refine Or.inr ⟨t, ty, hk, fun H1 s1 => ?_⟩
      walk_at "w"
      exact k H1 s1
end
section
open PySem.Spec PyProof.Rows
/-- x == y, two tuples of which the second one is empty, whatever stands in the first one -/
theorem op_eqE {X : Cx} (hu : X.A.units < cLine) : OpR X (compareOp .Eq) (fun x y H Q => ∃ a b xs, x = .ref a ∧ y = .ref b ∧ SqT X.K H a xs ∧ SqT X.K H b [] ∧ Q (.bl xs.isEmpty) H) := by
  intro pins s σ H x y v u Q I rx ry h
  obtain ⟨a, b, xs, rfl, rfl, ha, hb, q⟩ := h
  obtain rfl : v = Value.ref a := rx
  obtain rfl : u = Value.ref b := ry
  obtain ⟨its, ra, ta, _⟩ := I.tuple ha
  obtain ⟨itb, rb, tb, _⟩ := I.tuple hb
  cases rb
  have hl : xs.length = its.length := ra.length
  refine SeqAt.eq_tupleAt (e := fun _ => true) ta tb hu (fun j h1 h2 => absurd h2 (Nat.not_lt_zero j)) (fin_bl I q ?_)
  cases xs with
  | nil =>
    have : its = [] := List.eq_nil_of_length_eq_zero (by rw [← hl] <;> rfl)
    subst this
    rfl
  | cons x r =>
    cases its with
    | nil => cases hl
    | cons u t => simp
theorem op_neE {X : Cx} (hu : X.A.units < cLine) : OpR X (compareOp .NotEq) (fun x y H Q => ∃ a b xs, x = .ref a ∧ y = .ref b ∧ SqT X.K H a xs ∧ SqT X.K H b [] ∧ Q (.bl (!xs.isEmpty)) H) := by
  intro pins s σ H x y v u Q I rx ry h
  obtain ⟨a, b, xs, rfl, rfl, ha, hb, q⟩ := h
  obtain rfl : v = Value.ref a := rx
  obtain rfl : u = Value.ref b := ry
  obtain ⟨its, ra, ta, _⟩ := I.tuple ha
  obtain ⟨itb, rb, tb, _⟩ := I.tuple hb
  cases rb
  have hl : xs.length = its.length := ra.length
  refine PySem.SeqAt.RcNeAt.tuples (e := fun _ => true) ta tb hu (fun j h1 h2 => absurd h2 (Nat.not_lt_zero j)) _ _ _ _ (fin_bl I q ?_)
  cases xs with
  | nil =>
    have : its = [] := List.eq_nil_of_length_eq_zero (by rw [← hl] <;> rfl)
    subst this
    rfl
  | cons x r =>
    cases its with
    | nil => cases hl
    | cons u t => simp
/-- two tuples of two items, the second one of texts -/
theorem op_eqTg {X : Cx} (hu : X.A.units + 1 < cLine) : OpR X (compareOp .Eq) (fun x y H Q => ∃ a b h g z u, x = .ref a ∧ y = .ref b ∧ SqT X.K H a [.str h, u] ∧ SqT X.K H b [.str g, .str z] ∧
    ((∃ t, u = .str t ∧ Q (.bl (decide (h = g) && decide (t = z))) H) ∨ (((∃ i, u = .int i) ∨ ∃ c us, u = .ref c ∧ SqT X.K H c us) ∧ Q (.bl false) H))) := by
  intro pins s σ H x y v u Q I rx ry q
  obtain ⟨a, b, h, g, z, w2, rfl, rfl, ha, hb, q⟩ := q
  obtain rfl : v = Value.ref a := rx
  obtain rfl : u = Value.ref b := ry
  obtain ⟨its, ra, ta, _⟩ := I.tuple ha
  obtain ⟨itb, rb, tb, _⟩ := I.tuple hb
  obtain ⟨v1, v2, e1, r1, r2⟩ := vals2 ra
  obtain ⟨u1, u2, e2, s1, s2⟩ := vals2 rb
  subst e1
  subst e2
  obtain ⟨t1, rfl⟩ := r1
  obtain ⟨t2, rfl⟩ := s1
  obtain ⟨t3, rfl⟩ := s2
  have hu1 : X.A.in1.units < cLine := by
    show X.A.units + 1 < cLine
    exact hu
  rcases q with ⟨t, rfl, q⟩ | ⟨hk, q⟩
  · obtain ⟨t4, rfl⟩ := r2
    refine SeqAt.eq_tupleAt (e := fun j => if j = 0 then h == g else t == z) ta tb (by omega) (fun j h1 h2 => ?_) (fin_bl I q ?_)
    · match j, h1 with
      | 0, _ => exact SeqAt.EqAt.str_str h t1 g t2
      | 1, _ => exact SeqAt.EqAt.str_str t t4 z t3
    · show _ = ((List.range 2).all (fun j => if j = 0 then h == g else t == z) && true)
      rw [show List.range 2 = [0, 1] from rfl]
      show _ = ((h == g && (t == z && true)) && true)
      rw [Bool.and_true, Bool.and_true]
      by_cases a : h = g <;> by_cases b : t = z <;> simp [a, b]
  · have h2 : SeqAt.EqAt X.A.in1 s v2 (Value.str z t3) false := by
      rcases hk with ⟨i, rfl⟩ | ⟨c, us, rfl, hc⟩
      · obtain ⟨t4, rfl⟩ := r2
        exact SeqAt.EqAt.int_str i t4 z t3
      · obtain rfl : v2 = Value.ref c := r2
        obtain ⟨itc, rc, tc, _⟩ := I.tuple hc
        exact SeqAt.EqAt.tuple_str z t3 tc hu1
    refine SeqAt.eq_tupleAt (e := fun j => if j = 0 then h == g else false) ta tb (by omega) (fun j h1 h3 => ?_) (fin_bl I q ?_)
    · match j, h1 with
      | 0, _ => exact SeqAt.EqAt.str_str h t1 g t2
      | 1, _ => exact h2
    · show _ = ((List.range 2).all (fun j => if j = 0 then h == g else false) && true)
      rw [show List.range 2 = [0, 1] from rfl]
      show _ = ((h == g && (false && true)) && true)
      simp
theorem slA {X : Cx} {K : PySem.W.Frag} (hK : X.K = K) : SlR X (rSlA K) := by
  subst hK
  exact sl_tupA
end
section
variable {K : PySem.W.Frag}
/-- any value that the law speaks of; `oth` is an object that is no tuple -/
inductive PV where
  | non
  | bl (b : Bool)
  | int (i : Int)
  | str (z : Str)
  | tup (xs : List PV)
  | oth
theorem sqT_same {H H1 : Hp} {q : Addr} {xs : List V} (s : Same H H1) (h : SqT K H q xs) : SqT K H1 q xs := by
  rcases h with (h | ⟨o, h⟩) | h
  · exact .inl (.inl (s _ _ h))
  · exact .inl (.inr ⟨o, s _ _ h⟩)
  · exact .inr h
/-- an entry of a record, with a tree that has two parts at least -/
def isEnt : PV → Bool
  | .tup [.str _, .tup (_ :: _ :: _)] => true
  | _ => false
def entsB (xs : List PV) : Bool := xs.all isEnt
/-- a tuple that can be read and that isinstance knows; entries have no fields -/
def Tp (K : PySem.W.Frag) (H : Hp) (p : Addr) (ys : List PV) (xs : List V) : Prop := SqT K H p xs ∧ TyX K H (.ref p) (.type "tuple") ∧ (entsB ys = true → TupF H p xs)
theorem Tp.keep {H H1 : Hp} (s : Same H H1) {p : Addr} {ys : List PV} {xs : List V} (h : Tp K H p ys xs) : Tp K H1 p ys xs := ⟨sqT_same s h.1, tyX_same h.2.1 s, fun e => by
  obtain ⟨o, c, d, g⟩ := h.2.2 e
  exact ⟨o, c, d, s _ _ g⟩⟩
/-- what isinstance says of a type -/
def KitT (K : PySem.W.Frag) (t : Value) (tu st it bo : Bool) : Prop := PySem.W.kitOne K t (.type "tuple") = some tu ∧ PySem.W.kitOne K t (.type "str") = some st ∧ PySem.W.kitOne K t (.type "int") = some it ∧ PySem.W.kitOne K t (.type "bool") = some bo
mutual
inductive Is (K : PySem.W.Frag) (H : Hp) : PV → V → Prop
  | non : Is K H .non .non
  | bl (b : Bool) : Is K H (.bl b) (.bl b)
  | int (i : Int) : Is K H (.int i) (.int i)
  | str (z : Str) (h : z.length ≤ 100) : Is K H (.str z) (.str z)
  | tup {p : Addr} {xs : List PV} {vs : List V} (h : Tp K H p xs vs) (a : IsAll K H xs vs) : Is K H (.tup xs) (.ref p)
  | oth {p : Addr} {t : Value} (h : TyX K H (.ref p) t) (k : KitT K t false false false false) : Is K H .oth (.ref p)
inductive IsAll (K : PySem.W.Frag) (H : Hp) : List PV → List V → Prop
  | nil : IsAll K H [] []
  | cons {x : PV} {v : V} {xs : List PV} {vs : List V} (h : Is K H x v) (t : IsAll K H xs vs) : IsAll K H (x :: xs) (v :: vs)
end
mutual
theorem Is.keep {H H1 : Hp} (s : Same H H1) : ∀ {x : PV} {v : V}, Is K H x v → Is K H1 x v
  | _, _, .non => .non
  | _, _, .bl b => .bl b
  | _, _, .int i => .int i
  | _, _, .str z h => .str z h
  | _, _, .tup h a => .tup (h.keep s) (IsAll.keep s a)
  | _, _, .oth h k => .oth (tyX_same h s) k
theorem IsAll.keep {H H1 : Hp} (s : Same H H1) : ∀ {xs : List PV} {vs : List V}, IsAll K H xs vs → IsAll K H1 xs vs
  | _, _, .nil => .nil
  | _, _, .cons h t => .cons (Is.keep s h) (IsAll.keep s t)
end
theorem IsAll.len {H : Hp} : ∀ {xs : List PV} {vs : List V}, IsAll K H xs vs → xs.length = vs.length
  | _, _, .nil => rfl
  | _, _, .cons _ t => congrArg (· + 1) t.len
theorem IsAll.nth {H : Hp} : ∀ {xs : List PV} {vs : List V}, IsAll K H xs vs → ∀ {i : Nat} {v : V}, vs[i]? = some v → ∃ x, xs[i]? = some x ∧ Is K H x v
  | _, _, .cons (x := x) h t, 0, v, e => by
    simp at e
    subst e
    exact ⟨x, rfl, h⟩
  | _, _, .cons h t, i + 1, v, e => by
    simp at e
    obtain ⟨x, e1, e2⟩ := t.nth e
    exact ⟨x, by simpa using e1, e2⟩
theorem IsAll.nth' {H : Hp} : ∀ {xs : List PV} {vs : List V}, IsAll K H xs vs → ∀ {i : Nat} {x : PV}, xs[i]? = some x → ∃ v, vs[i]? = some v ∧ Is K H x v
  | _, _, .cons (v := v) h t, 0, x, e => by
    simp at e
    subst e
    exact ⟨v, rfl, h⟩
  | _, _, .cons h t, i + 1, x, e => by
    simp at e
    obtain ⟨v, e1, e2⟩ := t.nth' e
    exact ⟨v, by simpa using e1, e2⟩
theorem IsAll.app {H : Hp} : ∀ {xs : List PV} {vs : List V} {ys : List PV} {us : List V}, IsAll K H xs vs → IsAll K H ys us → IsAll K H (xs ++ ys) (vs ++ us)
  | _, _, _, _, .nil, b => b
  | _, _, _, _, .cons h t, b => .cons h (t.app b)
theorem IsAll.take {H : Hp} : ∀ {xs : List PV} {vs : List V} (n : Nat), IsAll K H xs vs → IsAll K H (xs.take n) (vs.take n)
  | _, _, 0, _ => by simp; exact .nil
  | _, _, n + 1, .nil => .nil
  | _, _, n + 1, .cons h t => .cons h (t.take n)
theorem IsAll.drop {H : Hp} : ∀ {xs : List PV} {vs : List V} (n : Nat), IsAll K H xs vs → IsAll K H (xs.drop n) (vs.drop n)
  | _, _, 0, h => h
  | _, _, n + 1, .nil => .nil
  | _, _, n + 1, .cons h t => t.drop n
def PV.isTup : PV → Bool
  | .tup _ => true
  | _ => false
def PV.isStr : PV → Bool
  | .str _ => true
  | _ => false
def PV.isInt : PV → Bool
  | .int _ => true
  | .bl _ => true
  | _ => false
def PV.isBl : PV → Bool
  | .bl _ => true
  | _ => false
theorem kt_NoneType : KitT K (.type "NoneType") false false false false := ⟨kit_ty (a := "NoneType") (b := "tuple") (by decide +kernel), kit_ty (a := "NoneType") (b := "str") (by decide +kernel), kit_ty (a := "NoneType") (b := "int") (by decide +kernel), kit_ty (a := "NoneType") (b := "bool") (by decide +kernel)⟩
theorem kt_bool : KitT K (.type "bool") false false true true := ⟨kit_ty (a := "bool") (b := "tuple") (by decide +kernel), kit_ty (a := "bool") (b := "str") (by decide +kernel), kit_ty (a := "bool") (b := "int") (by decide +kernel), kit_ty (a := "bool") (b := "bool") (by decide +kernel)⟩
theorem kt_int : KitT K (.type "int") false false true false := ⟨kit_ty (a := "int") (b := "tuple") (by decide +kernel), kit_ty (a := "int") (b := "str") (by decide +kernel), kit_ty (a := "int") (b := "int") (by decide +kernel), kit_ty (a := "int") (b := "bool") (by decide +kernel)⟩
theorem kt_str : KitT K (.type "str") false true false false := ⟨kit_ty (a := "str") (b := "tuple") (by decide +kernel), kit_ty (a := "str") (b := "str") (by decide +kernel), kit_ty (a := "str") (b := "int") (by decide +kernel), kit_ty (a := "str") (b := "bool") (by decide +kernel)⟩
theorem kt_tuple : KitT K (.type "tuple") true false false false := ⟨kit_ty (a := "tuple") (b := "tuple") (by decide +kernel), kit_ty (a := "tuple") (b := "str") (by decide +kernel), kit_ty (a := "tuple") (b := "int") (by decide +kernel), kit_ty (a := "tuple") (b := "bool") (by decide +kernel)⟩
theorem kt_list : KitT K (.type "list") false false false false := ⟨kit_ty (a := "list") (b := "tuple") (by decide +kernel), kit_ty (a := "list") (b := "str") (by decide +kernel), kit_ty (a := "list") (b := "int") (by decide +kernel), kit_ty (a := "list") (b := "bool") (by decide +kernel)⟩
theorem kt_dict : KitT K (.type "dict") false false false false := ⟨kit_ty (a := "dict") (b := "tuple") (by decide +kernel), kit_ty (a := "dict") (b := "str") (by decide +kernel), kit_ty (a := "dict") (b := "int") (by decide +kernel), kit_ty (a := "dict") (b := "bool") (by decide +kernel)⟩
theorem Is.ty {H : Hp} {x : PV} {v : V} (h : Is K H x v) : ∃ t, TyX K H v t ∧ KitT K t x.isTup x.isStr x.isInt x.isBl := by
  cases h with
  | non => exact ⟨_, .base .non, kt_NoneType⟩
  | bl b => exact ⟨_, .base (.bl b), kt_bool⟩
  | int i => exact ⟨_, .base (.int i), kt_int⟩
  | str z hz => exact ⟨_, .base (.str z), kt_str⟩
  | tup h a => exact ⟨_, h.2.1, kt_tuple⟩
  | oth h k => exact ⟨_, h, k⟩
/-- a value is judged as a text, or it is none -/
theorem Is.any {H : Hp} {x : PV} {v : V} (h : Is K H x v) {P : Str → Prop} {R : Prop} (h1 : ∀ z, x = .str z → P z) (h2 : x.isStr = false → R) : (∃ z : Str, v = .str z ∧ z.length ≤ 10000 ∧ P z) ∨ ∃ t, TyX K H v t ∧ PySem.W.kitOne K t (.type "str") = some false ∧ R := by
  obtain ⟨t, ty, k⟩ := h.ty
  cases h with
  | str z hz => exact .inl ⟨z, rfl, by omega, h1 z rfl⟩
  | non => exact .inr ⟨t, ty, k.2.1, h2 rfl⟩
  | bl b => exact .inr ⟨t, ty, k.2.1, h2 rfl⟩
  | int i => exact .inr ⟨t, ty, k.2.1, h2 rfl⟩
  | tup _ _ => exact .inr ⟨t, ty, k.2.1, h2 rfl⟩
  | oth _ _ => exact .inr ⟨t, ty, k.2.1, h2 rfl⟩
/-- a judge of texts, asked of any value -/
def onStr (f : Str → Bool) : PV → Bool
  | .str z => f z
  | _ => false
theorem spAny_of {f : Str → Bool} {H : Hp} {Q : VK} {E : XK} {x : PV} {v : V} (h : Is K H x v) (k : ∀ H', Same H H' → Q (.bl (onStr f x)) H') : spAny K f [v] H Q E := by
  refine ⟨v, rfl, h.any (fun z e H' s => ?_) (fun e H' s => ?_)⟩
  · subst e
    exact k H' s
  · cases x with
    | str z => cases e
    | non => exact k H' s
    | bl b => exact k H' s
    | int i => exact k H' s
    | tup xs => exact k H' s
    | oth => exact k H' s
end
section
variable {P : Program} {w : World} {K : PySem.W.Frag} {mg : Str → Option Value} {base : Heap} {A : Ad}
/-- a def from any value to a truth -/
def spPV (K : PySem.W.Frag) (f : PV → Bool) : Sp := fun vs H Q _ => ∃ x v, vs = [v] ∧ Is K H x v ∧ ∀ H', Same H H' → Q (.bl (f x)) H'
/-- a text before a text -/
def ltZ (a b : Str) : Bool := decide (a.cps.toList < b.cps.toList)
def itemOK (last : Str) : PV → Option Str
  | .tup [.str z, .int n] => if isF z && (decide (n ≠ 0) && ltZ last z) then some z else none
  | _ => none
def measFrom : Str → List PV → Bool
  | _, [] => true
  | last, x :: r => match itemOK last x with
    | some z => measFrom z r
    | none => false
def measB : PV → Bool
  | .tup xs => measFrom (Str.ofString "") xs
  | _ => false
theorem measB_no {x : PV} (h : x.isTup = false) : measB x = false := by cases x <;> first | rfl | cases h
theorem item_no {l : Str} {x : PV} (h : x.isTup = false) : itemOK l x = none := by cases x <;> first | rfl | cases h
theorem item_len {l : Str} {xs : List PV} (h : xs.length ≠ 2) : itemOK l (.tup xs) = none := by
  match xs with
  | [] => rfl
  | [x] => cases x <;> rfl
  | [x, y] => exact absurd rfl h
  | x :: y :: z :: r => cases x <;> cases y <;> rfl
theorem item_two {l : Str} {f n : PV} (h : onStr isF f = false ∨ (n.isInt && !n.isBl) = false) : itemOK l (.tup [f, n]) = none := by
  cases f <;> cases n <;> first | rfl | skip
  rename_i z i
  rcases h with h | h
  · show (if _ then _ else _) = _
    rw [show isF z = false from h] <;> rfl
  · cases h
theorem item_str {l z : Str} {i : Int} : itemOK l (.tup [.str z, .int i]) = if isF z && (decide (i ≠ 0) && ltZ l z) then some z else none := rfl
set_option maxHeartbeats 1000000 in
theorem ok_is_measure (T : Top w K mg A) : FnOk P w K mg base CX0 6 A.a_is_measure A.fd_is_measure ["value"] (spPV K measB) := by
  refine T.F_is_measure.ok sc_is_measure (fun vs H Q E h => ?_) (fun cdv A' outer s H vs Q E hr h => ?_)
  · obtain ⟨x, v, rfl, _⟩ := h
    rfl
  · obtain ⟨x, v, rfl, hx, k⟩ := h
    refine ⟨_, (pss_cons (ps_if (pt_not (pt_val (pe_callB call_isi (by rfl) T.n_isinstance (by decide +kernel) (pa_cons (pv 0) (pa_cons (pe_bltn (v := .ty "tuple") (by rfl) T.n_tuple (by decide +kernel) rfl) pa_nil))))) (pss_one (ps_ret pe_bl)) pss_nil)
    (pss_cons (ps_set (i := 1) sc_is_measure.nd rfl (Or.inl rfl) pe_str)
    (pss_cons (ps_for PassesOwn.never rfl (pi_tup (pv 0)) (pg_name (i := 2) sc_is_measure.nd rfl (Or.inl rfl)) (pss_cons (ps_if (PW.pt (pw_or (pt_not (pt_val (pe_callB call_isi (by rfl) T.n_isinstance (by decide +kernel) (pa_cons (pv 2) (pa_cons (pe_bltn (v := .ty "tuple") (by rfl) T.n_tuple (by decide +kernel) rfl) pa_nil))))) (pw_or1 (pt_cmpR (U.uNe (K := K) rfl hr.units) (pe_callB (U.uLen (K := K) rfl) (by rfl) T.n_len (by decide +kernel) (pa_cons (pv 2) pa_nil)) pe_int (nomark _))))) (pss_one (ps_ret pe_bl)) pss_nil)
    (pss_cons (ps_asg (pv 2) (pg_tup rfl (pgs_cons (pg_name (i := 3) sc_is_measure.nd rfl (Or.inl rfl)) (pgs_cons (pg_name (i := 4) sc_is_measure.nd rfl (Or.inl rfl)) pgs_nil))))
    (pss_cons (ps_if (PW.pt (pw_or (pt_not (pt_val (pe_call (ok_is_factor T) (hr.mono (by decide)) rfl T.m_is_factor T.F_is_factor.kp T.b_is_factor .nil pass0 (pa_cons (pv 3) pa_nil)))) (pw_or (pt_not (pt_val (pe_call (ok_is_integer T) (hr.mono (by decide)) rfl T.m_is_integer T.F_is_integer.kp T.b_is_integer .nil pass0 (pa_cons (pv 4) pa_nil)))) (pw_or (pt_cmpR (U.uEq (K := K) rfl hr.units) (pv 4) pe_int (nomark _)) (pw_or1 (pt_cmpR U.uLe (pv 3) (pv 1) (nomark _))))))) (pss_one (ps_ret pe_bl)) pss_nil)
    (pss_one (ps_set (i := 1) sc_is_measure.nd rfl (Or.inl rfl) (pv 3)))))))
    (pss_one (ps_ret pe_bl))))), ?_⟩
    walk_at "w"
    obtain ⟨t, ty, kt⟩ := hx.ty
    refine ⟨_, _, _, _, _, rfl, .ty _, ty, kt.1, ?_⟩
    cases hb : x.isTup with
    | false =>
      walk_at "w"
      have k := k H (Same.refl H)
      rw [measB_no hb] at k
      exact k
    | true =>
      cases hx with
      | non => cases hb
      | bl _ => cases hb
      | int _ => cases hb
      | str _ _ => cases hb
      | oth _ _ => cases hb
      | @tup p xs vs tp ha =>
        walk_at "w"
        refine ⟨⟨_, tp.1⟩, ?_⟩
        refine for_tup (K := K) (a := p) (xs := vs) (fun i σ Hj => ∃ (y : Str) (o2 o3 o4 : Option V), σ = [some (.ref p), some (.str y), o2, o3, o4] ∧ Same H Hj ∧ y.length ≤ 100 ∧ measFrom (Str.ofString "") xs = measFrom y (xs.drop i))
          ⟨Str.ofString "", _, _, _, rfl, Same.refl H, by decide, rfl⟩ (fun i σ Hj _ st => ?_) ?_ ?_
        · obtain ⟨_, _, _, _, _, s, _⟩ := st
          exact sqT_same s tp.1
        · rintro i v σ Hj hv ⟨y, o2, o3, o4, rfl, sj, hyl, hm⟩
          obtain ⟨x, hx, isx⟩ := ha.nth hv
          have isx := isx.keep sj
          obtain ⟨hi, e⟩ := List.getElem?_eq_some_iff.mp hx
          rw [List.drop_eq_getElem_cons hi, e] at hm
          have fail : itemOK y x = none → ∀ H', Same Hj H' → Q (.bl false) H' := fun h H' s' => by
            have k := k H' (sj.trans s')
            have e : measB (.tup xs) = false := by
              show measFrom _ xs = false
              rw [hm]
              show (match itemOK y x with | some z => _ | none => _) = false
              rw [h]
            rw [e] at k
            exact k
          walk_at "w"
          obtain ⟨t2, ty2, kt2⟩ := isx.ty
          refine ⟨_, _, _, _, _, rfl, .ty _, ty2, kt2.1, ?_⟩
          cases hb2 : x.isTup with
          | false =>
            walk_at "w"
            exact fail (item_no hb2) _ (Same.refl _)
          | true =>
            cases isx with
            | non => cases hb2
            | bl _ => cases hb2
            | int _ => cases hb2
            | str _ _ => cases hb2
            | oth _ _ => cases hb2
            | @tup p2 ys us tp2 ha2 =>
              have tq := tp2.1
              clear tp2
              walk_at "w"
              refine Or.inr ⟨_, _, rfl, Or.inr tq, ?_⟩
              walk_at "w"
              refine U.ifDbi (fun hl => ?_) (fun hl => ?_)
              · walk_at "w"
                refine fail (item_len fun h => hl ?_) _ (Same.refl _)
                rw [← ha2.len, h] <;> rfl
              · have hl : us.length = 2 := Int.ofNat.inj hl
                match us, hl with
                | [f, n], _ =>
                  match ys, ha2 with
                  | [xf, xn], .cons hf (.cons hn .nil) =>
                    walk_at "w"
                    refine ⟨p2, _, rfl, tq, rfl, ?_⟩
                    walk_at "w"
                    refine hf.any (fun z ez H2 s2 => ?_) (fun ez H2 s2 => ?_)
                    · subst ez
                      have hzl : z.length ≤ 100 := by cases hf; assumption
                      cases hF : isF z with
                      | false =>
                        walk_at "w"
                        exact fail (item_two (.inl hF)) _ s2
                      | true =>
                        walk_at "w"
                        obtain ⟨t3, ty3, kt3⟩ := (hn.keep s2).ty
                        refine ⟨_, _, _, _, rfl, ty3, kt3.2.2.1, kt3.2.2.2, ?_⟩
                        cases hI : (xn.isInt && !xn.isBl) with
                        | false =>
                          walk_at "w"
                          exact fail (item_two (.inr hI)) _ s2
                        | true =>
                          cases hn with
                          | non => cases hI
                          | bl _ => cases hI
                          | str _ _ => cases hI
                          | tup _ _ => cases hI
                          | oth _ _ => cases hI
                          | int i =>
                            have hz : z = z := rfl
                            cases hf
                            walk_at "w"
                            refine U.ifDi (fun h0 => ?_) (fun h0 => ?_)
                            · walk_at "w"
                              refine fail ?_ _ s2
                              rw [item_str, h0]
                              rw [show decide ((0 : Int) ≠ 0) = false from rfl, Bool.false_and, Bool.and_false]
                              rfl
                            · walk_at "w"
                              cases hlt : ltZ y z with
                              | false =>
                                rw [show (!decide (y.cps.toList < z.cps.toList)) = true from by rw [show decide (y.cps.toList < z.cps.toList) = false from hlt] <;> rfl]
                                walk_at "w"
                                refine fail ?_ _ s2
                                rw [item_str, hlt, Bool.and_false, Bool.and_false]
                                rfl
                              | true =>
                                rw [show (!decide (y.cps.toList < z.cps.toList)) = false from by rw [show decide (y.cps.toList < z.cps.toList) = true from hlt] <;> rfl]
                                walk_at "w"
                                refine ⟨_, _, _, _, rfl, sj.trans s2, hzl, ?_⟩
                                rw [hm]
                                show (match itemOK y (.tup [.str z, .int i]) with | some z => _ | none => _) = _
                                rw [item_str, hF, hlt, decide_eq_true h0]
                                rfl
                    · have e : onStr isF xf = false := by cases xf <;> first | rfl | cases ez
                      walk_at "w"
                      exact fail (item_two (.inl e)) _ s2
        · rintro σ Hj ⟨y, o2, o3, o4, rfl, sj, hyl, hm⟩
          walk_at "w"
          have k := k Hj sj
          have e : measB (.tup xs) = true := by
            show measFrom _ xs = true
            rw [hm, List.drop_eq_nil_of_le (by rw [ha.len]; exact Nat.le_refl _)]
            rfl
          rw [e] at k
          exact k
end
section
variable {P : Program} {w : World} {K : PySem.W.Frag} {mg : Str → Option Value} {base : Heap} {A : Ad}
/-- a pool of draws -/
def PoolAt (H : Hp) (p : Addr) : Prop := ∃ (a c : Int) (g : Bool), H p = some (.lst [.int a, .int c, .bl g])
theorem PoolAt.same {H H' : Hp} {p : Addr} (b : PoolAt H p) (s : Same H H') : PoolAt H' p := by
  obtain ⟨a, c, g, e⟩ := b
  exact ⟨a, c, g, s _ _ e⟩
theorem PoolAt.some {H : Hp} {p : Addr} (b : PoolAt H p) : ∃ l, H p = some (.lst l) := by
  obtain ⟨a, c, g, e⟩ := b
  exact ⟨_, e⟩
def spBag : Sp := fun vs H Q _ => ∃ c : Int, vs = [.int c] ∧ ∀ p H', H p = none → PoolAt H' p → Same H H' → Q (.ref p) H'
theorem ok_law_bag (T : Top w K mg A) : FnOk P w K mg base CX0 1 A.a_law_bag A.fd_law_bag ["cell"] spBag := by
  refine T.F_law_bag.ok sc_law_bag (fun vs H Q E h => ?_) (fun cdv A outer s H vs Q E hr h => ?_)
  · obtain ⟨c, rfl, _⟩ := h
    rfl
  · obtain ⟨c, rfl, k⟩ := h
    refine ⟨_, (pss_one (ps_ret (pe_lst (pa_cons (pv 0) (pa_cons pe_int (pa_cons (pe_cmpR U.uGe (pv 0) (pe_op op_pow pe_int pe_int) (nomark _)) pa_nil)))))), ?_⟩
    walk_at "w"
    intro p np
    exact k _ _ np ⟨_, _, _, upd_same⟩ (U.same_new np)
def spDrawP : Sp := fun vs H Q _ => ∃ (p : Addr) (m : Int), vs = [.ref p, .int m] ∧ PoolAt H p ∧ 0 < m ∧ m < 1073741824 ∧ ∀ (j : Nat) (H' : Hp), (j : Int) < m → PoolAt H' p → SameBut p H H' → Q (.int (j : Int)) H'
theorem ok_law_draw (T : Top w K mg A) : FnOk P w K mg base CX0 1 A.a_law_draw A.fd_law_draw ["pool", "limit"] spDrawP := by
  refine T.F_law_draw.ok sc_law_draw (fun vs H Q E h => ?_) (fun cdv A outer s H vs Q E hr h => ?_)
  · obtain ⟨p, m, rfl, _⟩ := h
    rfl
  · obtain ⟨p, m, rfl, ⟨a, c, g, hp⟩, hm, hm2, k⟩ := h
    refine ⟨_, (pss_cons (ps_asg (pe_op U.uAdd (pe_ix (U.uIx (K := K) rfl) (pv 0) pe_int (fun _ _ => rfl)) pe_int) (pg_sub (pv 0) pe_int set_list))
    (pss_cons (ps_if (pt_val (pe_ix (U.uIx (K := K) rfl) (pv 0) pe_int (fun _ _ => rfl))) (pss_cons (ps_set (i := 2) sc_law_draw.nd rfl (Or.inl rfl) (pe_op op_mod (pe_callTy call_int1 (by rfl) T.n_int (by decide +kernel) (pa_cons (pe_ix (U.uIx (K := K) rfl) (pv 0) pe_int (fun _ _ => rfl)) pa_nil)) (pv 1)))
    (pss_cons (ps_asg (pe_op op_fdiv (pe_callTy call_int1 (by rfl) T.n_int (by decide +kernel) (pa_cons (pe_ix (U.uIx (K := K) rfl) (pv 0) pe_int (fun _ _ => rfl)) pa_nil)) (pv 1)) (pg_sub (pv 0) pe_int set_list))
    (pss_one (ps_ret (pv 2))))) pss_nil)
    (pss_cons (ps_set (i := 3) sc_law_draw.nd rfl (Or.inl rfl) (pe_op op_mod (pe_callTy call_int1 (by rfl) T.n_int (by decide +kernel) (pa_cons (pe_op U.uAdd (pe_op U.uAdd (pe_op U.uMul (pe_ix (U.uIx (K := K) rfl) (pv 0) pe_int (fun _ _ => rfl)) pe_int) (pe_op U.uMul (pe_ix (U.uIx (K := K) rfl) (pv 0) pe_int (fun _ _ => rfl)) pe_int)) pe_int) pa_nil)) pe_int))
    (pss_one (ps_ret (pe_op op_mod (pe_op op_fdiv (pe_callTy call_int1 (by rfl) T.n_int (by decide +kernel) (pa_cons (pe_op op_mod (pe_op op_pow (pv 3) pe_int) pe_int) pa_nil)) pe_int) (pv 1))))))), ?_⟩
    have k2 : ∀ (d : Int) (H' : Hp), 0 ≤ d → d < m → PoolAt H' p → SameBut p H H' → Q (.int d) H' := fun d H' h0 h1 h2 h3 => by
      obtain ⟨j, rfl⟩ := Int.eq_ofNat_of_zero_le h0
      exact k j H' h1 h2 h3
    walk_at "w"
    cases g with
    | true =>
      refine iteT ?_
      walk_at "w"
      refine Or.inl ⟨_, rfl, ?_⟩
      walk_at "w"
      refine Or.inl ⟨_, rfl, ?_⟩
      walk_at "w"
      exact k2 _ _ (Int.emod_nonneg _ (by omega)) (Int.emod_lt_of_pos _ hm) ⟨_, _, _, upd_same⟩ ((U.SameBut.refl _ _).upd.upd)
    | false =>
      refine iteF ?_
      walk_at "w"
      refine Or.inl ⟨_, rfl, ?_⟩
      walk_at "w"
      have b1 := Int.emod_nonneg (a * 7919 + (c + 1) * 104729 + 13) (show (2147483647 : Int) ≠ 0 by decide)
      have b2 := Int.emod_lt_of_pos (a * 7919 + (c + 1) * 104729 + 13) (show (0 : Int) < 2147483647 by decide)
      walk_at "w"
      refine Or.inl ⟨_, rfl, ?_⟩
      walk_at "w"
      exact k2 _ _ (Int.emod_nonneg _ (by omega)) (Int.emod_lt_of_pos _ hm) ⟨_, _, _, upd_same⟩ ((U.SameBut.refl _ _).upd)
theorem ok_law_at (T : Top w K mg A) : FnOk P w K mg base CX0 1 A.a_law_at A.fd_law_at ["script", "k"]
    (fun vs H Q _ => ∃ (a : Addr) (ns : List Int) (k : Nat), vs = [.ref a, .int k] ∧ SqL K H a (ns.map V.int) ∧ ns.length ≤ 63 ∧ ∀ (c : Int) (H' : Hp), Same H H' → Q (.int c) H') := by
  refine T.F_law_at.ok sc_law_at (fun vs H Q E h => ?_) (fun cdv A outer s H vs Q E hr h => ?_)
  · obtain ⟨a, ns, k, rfl, _⟩ := h
    rfl
  · obtain ⟨a, ns, j, rfl, hS, hl, k⟩ := h
    refine ⟨_, (pss_cons (ps_if (pt_cmpR U.uLt (pv 1) (pe_callB (U.uLen (K := K) rfl) (by rfl) T.n_len (by decide +kernel) (pa_cons (pv 0) pa_nil)) (nomark _)) (pss_one (ps_ret (pe_ix (U.uIx (K := K) rfl) (pv 0) (pv 1) (fun _ _ => rfl)))) pss_nil)
    (pss_one (ps_ret pe_int))), ?_⟩
    walk_at "w"
    rw [List.length_map]
    refine U.ifD (fun hk => ?_) (fun hk => ?_)
    · obtain ⟨c, hc⟩ : ∃ c, ns[j]? = some c := ⟨_, List.getElem?_eq_getElem (by omega)⟩
      walk_at "w"
      refine Or.inl ⟨_, _, _, _, rfl, rfl, hS, U.atN j rfl (by rw [List.getElem?_map, hc] <;> rfl), ?_⟩
      exact k _ _ (Same.refl _)
    · walk_at "w"
      exact k _ _ (Same.refl _)
end
section
variable {K : PySem.W.Frag}
/-- all is as it was, but lists may have other items -/
def Lst (H H' : Hp) : Prop := ∀ c o, H c = some o → H' c = some o ∨ ∃ l l', o = .lst l ∧ H' c = some (.lst l')
theorem Lst.of {H H' : Hp} (s : Same H H') : Lst H H' := fun c o h => .inl (s c o h)
theorem Lst.trans {H H1 H2 : Hp} (a : Lst H H1) (b : Lst H1 H2) : Lst H H2 := fun c o h => by
  rcases a c o h with h1 | ⟨l, l', e, h1⟩
  · exact b c o h1
  · rcases b _ _ h1 with h2 | ⟨m, m', e2, h2⟩
    · exact .inr ⟨l, l', e, h2⟩
    · exact .inr ⟨l, m', e, h2⟩
theorem Lst.no {H H1 : Hp} (s : Lst H H1) {a : Addr} {o : HO} (e : H a = some o) (n : ∀ l, o ≠ .lst l) : H1 a = some o := by
  rcases s a o e with h | ⟨l, _, h, _⟩
  · exact h
  · exact absurd h (n l)
theorem tyX_lst {H H1 : Hp} (s : Lst H H1) {v : V} {t : Value} (h : TyX K H v t) : TyX K H1 v t := by
  cases h with
  | base b' =>
    cases b' with
    | non => exact .base .non
    | bl x => exact .base (.bl x)
    | int i => exact .base (.int i)
    | str x => exact .base (.str x)
    | flt x => exact .base (.flt x)
    | lst e =>
      rcases s _ _ e with h | ⟨_, _, _, h⟩
      · exact .base (.lst h)
      · exact .base (.lst h)
    | frz e => exact .base (.frz (s.no e nofun))
    | tup e => exact .base (.tup (s.no e nofun))
    | dK e => exact .base (.dK (s.no e nofun))
    | dT e => exact .base (.dT (s.no e nofun))
    | ins e a b c d f => exact .base (.ins (s.no e nofun) a b c d f)
  | byt b => exact .byt b
  | set e => exact .set (s.no e nofun)
  | kList e c => exact .kList e c
  | kTuple e c => exact .kTuple e c
  | kDict e c => exact .kDict e c
  | fTuple e => exact .fTuple (s.no e nofun)
  | fDict e => exact .fDict (s.no e nofun)
theorem sqT_lstA {H H1 : Hp} (s : Lst H H1) {q : Addr} {xs : List V} (h : SqT K H q xs) : SqT K H1 q xs := by
  rcases h with (h | ⟨o, h⟩) | h
  · exact .inl (.inl (s.no h nofun))
  · exact .inl (.inr ⟨o, s.no h nofun⟩)
  · exact .inr h
mutual
theorem Is.lst {H H1 : Hp} (s : Lst H H1) : ∀ {x : PV} {v : V}, Is K H x v → Is K H1 x v
  | _, _, .non => .non
  | _, _, .bl b => .bl b
  | _, _, .int i => .int i
  | _, _, .str z h => .str z h
  | _, _, .tup h a => .tup ⟨sqT_lstA s h.1, tyX_lst s h.2.1, fun e => by
      obtain ⟨o, c, d, g⟩ := h.2.2 e
      exact ⟨o, c, d, s.no g nofun⟩⟩ (IsAll.lst s a)
  | _, _, .oth h k => .oth (tyX_lst s h) k
theorem IsAll.lst {H H1 : Hp} (s : Lst H H1) : ∀ {xs : List PV} {vs : List V}, IsAll K H xs vs → IsAll K H1 xs vs
  | _, _, .nil => .nil
  | _, _, .cons h t => .cons (Is.lst s h) (IsAll.lst s t)
end
/-- a new tuple of values -/
theorem Is.mk {H : Hp} {p : Addr} {xs : List PV} {vs : List V} (h : H p = some (.tup vs)) (a : IsAll K H xs vs) (n : entsB xs = false := by rfl) : Is K H (.tup xs) (.ref p) := .tup ⟨SqT.of h, .base (.tup h), fun e => by rw [n] at e; cases e⟩ a
theorem Is.mkF {H : Hp} {p : Addr} {o : Obj} {xs : List PV} {vs : List V} (h : H p = some (.frz o (.tup vs))) (c : o.cls = .type "tuple") (d : o.dict = none) (a : IsAll K H xs vs) : Is K H (.tup xs) (.ref p) := .tup ⟨.inl (.inr ⟨o, h⟩), .fTuple h, fun _ => ⟨o, c, d, h⟩⟩ a
theorem Lst.but {p : Addr} {H H1 : Hp} (s : U.SameBut p H H1) (h : ∃ l, H p = some (.lst l)) (h1 : ∃ l, H1 p = some (.lst l)) : Lst H H1 := fun c o e => by
  by_cases q : c = p
  · obtain ⟨l, hl⟩ := h
    obtain ⟨l1, hl1⟩ := h1
    rw [q, hl] at e
    exact .inr ⟨l, l1, (Option.some.inj e).symm, by rw [q]; exact hl1⟩
  · exact .inl (s c o q e)
theorem Lst.pool {p : Addr} {H H1 : Hp} (s : U.SameBut p H H1) (h : PoolAt H p) (h1 : PoolAt H1 p) : Lst H H1 := .but s h.some h1.some
theorem pool_ne {H : Hp} {b p : Addr} (h : PoolAt H b) (np : H p = none) : p ≠ b := fun q => by
  obtain ⟨z, e⟩ := h.some
  rw [← q, np] at e
  cases e
theorem pool_up {b p : Addr} {H : Hp} {o : HO} (h : PoolAt H b) (ne : p ≠ b) : PoolAt (upd H p o) b := by
  obtain ⟨a, c, g, e⟩ := h
  exact ⟨a, c, g, by rw [upd_ne (fun z => ne z.symm)]; exact e⟩
theorem _root_.U.SameBut.up {b p : Addr} {H H1 : Hp} {o : HO} (s : U.SameBut b H H1) (n : H p = none) : U.SameBut b H (upd H1 p o) := fun c u ne h => by
  rw [upd_ne (fun z => by rw [z, n] at h; cases h)]
  exact s c u ne h
end
/-- both ways of a choice go on alike -/
theorem ifE_W {c : Prop} [Decidable c] {t1 t2 : TE} {σ : L2.St} {H1 : Hp} {K1 : VK} (W : V → Hp → Prop) (h1 : c → ∀ K', (∀ y H, W y H → K' y H) → t1 σ H1 K') (h2 : ¬ c → ∀ K', (∀ y H, W y H → K' y H) → t2 σ H1 K') (h : ∀ y H, W y H → K1 y H) :
    if decide c = true then t1 σ H1 K1 else t2 σ H1 K1 := U.ifD (fun hc => h1 hc K1 h) (fun hc => h2 hc K1 h)
theorem pg_tupK {X : Cx} {K : PySem.W.Frag} {es : List Expr} {k : Nat} {t : TGs} {n : Nat} {pos : Pos} (hK : X.K = K) (hc : X.calm = true) (h : PGs X es t)
    (hn : (assignEach es X.env).length = n := by rfl) (hst : (assignEach es X.env).findIdx? (·.1) = none := by rfl) : PG X (.Tuple es k pos) (gTup K n t) := by
  subst hK
  exact pg_tup hc h hn hst
theorem pe_bmK {X : Cx} {K : PySem.W.Frag} {T : String} {name : Str} {id : String} {r : V → List V → Hp → VK → Prop} {o e : Expr} {es : List Expr} {to : TE} {t : TA} {apos cpos : Pos} (hK : X.K = K) (pa : PlainAttrs T) (slot : Slot T name id) (hty : typeOf (.builtin id) = pure (.type "method_descriptor")) (hm : MtR X id r) (ho : PE X o to) (ha : PA X (e :: es) t)
    (hbase : attributeBase o name X.env (eval o X.env) = eval o X.env := by rfl)
    (hfew : ((backTo cpos (starEach (e :: es) X.env)).all (fun x => !x.1) && (backToKw cpos (keywordEach [] X.env)).all (fun x => x.1.isSome)
      && decide ((e :: es).length + ([] : List Keyword).length + (if ([] : List Keyword).isEmpty then 0 else 1) < 30)) = true := by rfl)
    (hline : (apos.endLine == cpos.line) = true := by rfl) (hs : starEach (e :: es) X.env = (false, eval e X.env) :: starEach es X.env := by rfl) (hplain : (backTo cpos (starEach es X.env)).any (·.1) = false := by rfl) :
    PE X (.Call (.Attribute o name apos) (e :: es) [] cpos) (tBM K T r to t) := by
  subst hK
  exact pe_bm pa slot hty hm ho ha hbase hfew hline hs hplain
/-- a row that is never reached -/
def tFalse : TS := fun _ _ _ => False
theorem ps_false {X : Cx} {st : Stmt} : PS X st tFalse := ⟨fun _ _ _ _ _ _ h => h.elim⟩
theorem newDD {H H1 : Hp} {p : Addr} {a b : HO} (np : H p = none) (h : upd (upd H p a) p b = H1) : Same H H1 ∧ H1 p = some b := by
  subst h
  refine ⟨fun c o e => ?_, upd_same⟩
  have n : c ≠ p := fun z => by rw [z, np] at e; cases e
  rw [upd_ne n, upd_ne n]
  exact e
theorem newIns {H H1 : Hp} {x dx : Addr} {a b : HO} (n : H x = none) (m : H dx = none) (ne : dx ≠ x) (h : ∀ c, c ≠ x → H1 c = (upd (upd H dx a) x b) c) : Same H H1 := fun c o e => by
  have n1 : c ≠ x := fun z => by rw [z, n] at e; cases e
  have n2 : c ≠ dx := fun z => by rw [z, m] at e; cases e
  rw [h c n1, upd_ne n1, upd_ne n2]
  exact e
/-- while xs, xs a list -/
def tLstT (K : PySem.W.Frag) (ta : TE) : TT := fun σ H Q => ta σ H fun x H' => ∃ p xs, x = .ref p ∧ SqL K H' p xs ∧ Q (!xs.isEmpty) H'
open PySem.Spec PyProof.Rows in
theorem pt_lst {X : Cx} {K : PySem.W.Frag} {a : Expr} {ta : TE} (hK : X.K = K) (ha : PE X a ta) (he : ∀ whole, isTrue a X.env whole = (do let v ← whole; standAt a.pos; holding [v] (truthy v))) : PT X a (tLstT K ta) := by
  subst hK
  refine ⟨fun pins s σ H Q I h => ?_⟩
  exact isTrue_plain (thn (ha.run pins s σ H _ I h) fun v s1 ⟨x, H1, I1, r1, p, xs, e1, e2, q1⟩ => by
    subst e1
    exact tru_ok pins s1 σ H1 _ v Q I1 r1 ⟨_, Or.inl ⟨xs, e2, rfl⟩, q1⟩) (he _)
def nV (xs : List Nat) : List V := xs.map fun i : Nat => V.int (i : Int)
section
variable {P : Program} {w : World} {K : PySem.W.Frag} {mg : Str → Option Value} {base : Heap} {A : Ad}
def mM : List PV := [.non, .non, .tup [.tup [.str "m", .int 1]]]
def nameX : PV := .tup [.str "name", .str "x"]
def bodies : List PV := [nameX, .tup [.str "fail", .str "gap"], .tup [.str "number", .int 1, .non], .tup [.str "call", nameX, nameX]]
def tagsT : List Str := ["A", "B", "Node"]
def labsT : List Str := ["a", "b", "c"]
mutual
/-- a drawn value tree, so deep at most -/
inductive VT : Nat → PV → Prop
  | number {d i : Nat} {u : PV} (hi : i < 4) (hu : u ∈ mM) : VT d (.tup [.str "number", .int (i : Int), u])
  | fn {d : Nat} {b : PV} (hb : b ∈ bodies) : VT d (.tup [.str "fn", .str "x", b])
  | record {d n : Nat} {es : List PV} (h : VE d es (labsT.take n)) : VT (d + 1) (.tup [.str "record", .tup es])
  | tag {d : Nat} {t : Str} {c : PV} (ht : t ∈ tagsT) (hc : VT d c) : VT (d + 1) (.tup [.str "tag", .str t, c])
inductive VE : Nat → List PV → List Str → Prop
  | nil {d : Nat} : VE d [] []
  | cons {d : Nat} {l : Str} {e : PV} {es : List PV} {ls : List Str} (h : VT d e) (t : VE d es ls) : VE d (.tup [.str l, e] :: es) (l :: ls)
end
theorem VE.snoc {d : Nat} : ∀ {es : List PV} {ls : List Str}, VE d es ls → ∀ {l : Str} {e : PV}, VT d e → VE d (es ++ [.tup [.str l, e]]) (ls ++ [l])
  | _, _, .nil, l, e, h => .cons h .nil
  | _, _, .cons h0 t, l, e, h => .cons h0 (t.snoc h)
theorem tags_len : ∀ t ∈ tagsT, t.length ≤ 100 := by decide +kernel
theorem labs_len : ∀ t ∈ labsT, t.length ≤ 100 := by decide +kernel
def spVT (K : PySem.W.Frag) : Nat → Sp
  | 0 => fun _ _ _ _ => False
  | m + 1 => fun vs H Q _ => ∃ (p : Addr) (d : Nat), vs = [.ref p, .int d] ∧ PoolAt H p ∧ d ≤ m ∧ ∀ (x : PV) (v : V) (H' : Hp), VT d x → Is K H' x v → PoolAt H' p → U.SameBut p H H' → Q v H'
theorem spVT_mk {m d : Nat} {p : Addr} {vs : List V} {H : Hp} {Q : VK} {E : XK} (hm : d + 1 ≤ m) (e : vs = [.ref p, .int d]) (h : PoolAt H p) (k : ∀ (x : PV) (v : V) (H' : Hp), VT d x → Is K H' x v → PoolAt H' p → U.SameBut p H H' → Q v H') : spVT K m vs H Q E := by
  cases m with
  | zero => exact absurd hm (Nat.not_succ_le_zero _)
  | succ m => exact ⟨p, d, e, h, by omega, k⟩
theorem ok_treeR (T : Top w K mg A) : ∀ m : Nat, FnOk P w K mg base CX0 (2 + m) A.a_law_tree_of A.fd_law_tree_of ["pool", "deep"] (spVT K m)
  | 0 => T.F_law_tree_of.ok sc_law_tree_of (fun vs H Q E h => False.elim h) (fun cdv A outer s H vs Q E hr h => False.elim h)
  | m + 1 => by
    have ih := ok_treeR T m
    refine T.F_law_tree_of.ok sc_law_tree_of (fun vs H Q E h => ?_) (fun cdv A' outer s H vs Q E hr h => ?_)
    · obtain ⟨p, d, rfl, _⟩ := h
      rfl
    · obtain ⟨p, d, rfl, pl, hd, k⟩ := h
      have hr : Room (2 + m) _ := hr
      refine ⟨_, (pss_cons (ps_set (i := 2) sc_law_tree_of.nd rfl (Or.inl rfl) (pe_call (ok_law_draw T) (hr.mono (by omega)) rfl T.m_law_draw T.F_law_draw.kp T.b_law_draw .nil pass0 (pa_cons (pv 0) (pa_cons pe_int pa_nil))))
    (pss_cons (ps_if (PW.pt (pw_or (pt_cmpR (U.uEq (K := K) rfl hr.units) (pv 1) pe_int (nomark _)) (pw_or1 (pt_cmpR (U.uEq (K := K) rfl hr.units) (pv 2) pe_int (nomark _))))) (pss_one (ps_ret (pe_tup (pa_cons pe_str (pa_cons (pe_call (ok_law_draw T) (hr.mono (by omega)) rfl T.m_law_draw T.F_law_draw.kp T.b_law_draw .nil pass0 (pa_cons (pv 0) (pa_cons pe_int pa_nil))) (pa_cons (pe_ix (U.uIx (K := K) rfl) (pe_lst (pa_cons pe_non (pa_cons pe_non (pa_cons (pe_tup (pa_cons (pe_tup (pa_cons pe_str (pa_cons pe_int pa_nil))) pa_nil)) pa_nil)))) (pe_call (ok_law_draw T) (hr.mono (by omega)) rfl T.m_law_draw T.F_law_draw.kp T.b_law_draw .nil pass0 (pa_cons (pv 0) (pa_cons pe_int pa_nil))) (fun _ _ => rfl)) pa_nil)))))) pss_nil)
    (pss_cons (ps_if (pt_cmpR (U.uEq (K := K) rfl hr.units) (pv 2) pe_int (nomark _)) (pss_cons (ps_set (i := 3) sc_law_tree_of.nd rfl (Or.inl rfl) (pe_lst (pa_cons (pe_tup (pa_cons pe_str (pa_cons pe_str pa_nil))) (pa_cons (pe_tup (pa_cons pe_str (pa_cons pe_str pa_nil))) (pa_cons (pe_tup (pa_cons pe_str (pa_cons pe_int (pa_cons pe_non pa_nil)))) (pa_cons (pe_tup (pa_cons pe_str (pa_cons (pe_tup (pa_cons pe_str (pa_cons pe_str pa_nil))) (pa_cons (pe_tup (pa_cons pe_str (pa_cons pe_str pa_nil))) pa_nil)))) pa_nil))))))
    (pss_one (ps_ret (pe_tup (pa_cons pe_str (pa_cons pe_str (pa_cons (pe_ix (U.uIx (K := K) rfl) (pv 3) (pe_call (ok_law_draw T) (hr.mono (by omega)) rfl T.m_law_draw T.F_law_draw.kp T.b_law_draw .nil pass0 (pa_cons (pv 0) (pa_cons pe_int pa_nil))) (fun _ _ => rfl)) pa_nil))))))) pss_nil)
    (pss_cons (ps_if (pt_cmpR (U.uEq (K := K) rfl hr.units) (pv 2) pe_int (nomark _)) (pss_cons (ps_set (i := 4) sc_law_tree_of.nd rfl (Or.inl rfl) (pe_slice (U.uSl (K := K) rfl) (pe_lst (pa_cons pe_str (pa_cons pe_str (pa_cons pe_str pa_nil)))) po_none (po_some (pe_call (ok_law_draw T) (hr.mono (by omega)) rfl T.m_law_draw T.F_law_draw.kp T.b_law_draw .nil pass0 (pa_cons (pv 0) (pa_cons pe_int pa_nil))))))
    (pss_one (ps_ret (pe_tup (pa_cons pe_str (pa_cons (pe_callTy cr_tupF (by rfl) T.n_tuple (by decide +kernel) (pa_cons (pe_lc (own := [("label", 5)]) rfl sc_law_tree_of.nd (pi_list (pv 4)) (blkOk_by (own := [("label", 5)]) (N := nm_law_tree_of) (sc := defScope s_law_tree_of) (by decide +kernel)) (fun _ _ _ _ _ => (pg_name (i := 5) sc_law_tree_of.nd rfl (Or.inl rfl))) (fun _ _ _ _ _ => pts_nil) (fun _ _ _ _ _ => (pe_tup (pa_cons (pv 5) (pa_cons (pe_call ih (hr.mono (by omega)) rfl T.m_law_tree_of T.F_law_tree_of.kp T.b_law_tree_of .nil pass0 (pa_cons (pv 0) (pa_cons (pe_op op_sub (pv 1) pe_int) pa_nil))) pa_nil))))) pa_nil)) pa_nil)))))) pss_nil)
    (pss_one (ps_ret (pe_tup (pa_cons pe_str (pa_cons (pe_ix (U.uIx (K := K) rfl) (pe_lst (pa_cons pe_str (pa_cons pe_str (pa_cons pe_str pa_nil)))) (pe_call (ok_law_draw T) (hr.mono (by omega)) rfl T.m_law_draw T.F_law_draw.kp T.b_law_draw .nil pass0 (pa_cons (pv 0) (pa_cons pe_int pa_nil))) (fun _ _ => rfl)) (pa_cons (pe_call ih (hr.mono (by omega)) rfl T.m_law_tree_of T.F_law_tree_of.kp T.b_law_tree_of .nil pass0 (pa_cons (pv 0) (pa_cons (pe_op op_sub (pv 1) pe_int) pa_nil))) pa_nil)))))))))), ?_⟩
      walk_at "w"
      intro j H1 hj pl1 s1
      walk_at "w"
      --BODY
      refine U.ifDi (fun h0 => ?_) (fun h0 => ?_)
      · walk_at "w"
        intro j2 H2 hj2 pl2 s2
        walk_at "w"
        intro p1 n1; generalize hX : upd _ p1 _ = H3; obtain ⟨s3, g3⟩ := U.newF n1 hX; clear hX
        walk_at "w"
        intro p2 n2; generalize hX : upd _ p2 _ = H4; obtain ⟨s4, g4⟩ := U.newF n2 hX; clear hX
        walk_at "w"
        intro p3 n3; generalize hX : upd _ p3 _ = H5; obtain ⟨s5, g5⟩ := U.newF n3 hX; clear hX
        walk_at "w"
        have pl5 := ((pl2.same s3).same s4).same s5
        have z3 := pool_ne ((pl2.same s3).same s4) n3
        refine ⟨pl5, by decide, by decide, fun j3 H6 hj3 pl6 s6 => ?_⟩
        have L6 := Lst.pool s6 pl5 pl6
        have g5' := s6 _ _ z3 g5
        have g4' := L6.no (s5 _ _ g4) nofun
        have g3' := L6.no (s5 _ _ (s4 _ _ g3)) nofun
        obtain ⟨u, hu⟩ : ∃ u, mM[j3]? = some u := ⟨_, List.getElem?_eq_getElem (show j3 < 3 by omega)⟩
        have all : IsAll K H6 mM [.non, .non, .ref p2] := .cons .non (.cons .non (.cons (.mk g4' (.cons (.mk g3' (.cons (.str _ (by decide +kernel)) (.cons (.int _) .nil))) .nil)) .nil))
        obtain ⟨uv, huv, hui⟩ := all.nth' hu
        refine Or.inl ⟨_, _, _, _, rfl, rfl, SqL.of g5', U.atN j3 rfl huv, ?_⟩
        walk_at "w"
        intro p4 n4; generalize hX : upd _ p4 _ = H7; obtain ⟨s7, g7⟩ := U.newF n4 hX; clear hX
        exact k _ _ H7 (.number (by omega) (List.mem_of_getElem? hu)) (.mk g7 (.cons (.str _ (by decide +kernel)) (.cons (.int _) (.cons (hui.keep s7) .nil)))) (pl6.same s7) ((((((s1.trans s2).trans (.of s3)).trans (.of s4)).trans (.of s5)).trans s6).trans (.of s7))
      · walk_at "w"
        refine U.ifDi (fun h1 => ?_) (fun h1 => ?_)
        · walk_at "w"
          intro j2 H2 hj2 pl2 s2
          walk_at "w"
          intro p1 n1; generalize hX : upd _ p1 _ = H3; obtain ⟨s3, g3⟩ := U.newF n1 hX; clear hX
          walk_at "w"
          intro p2 n2; generalize hX : upd _ p2 _ = H4; obtain ⟨s4, g4⟩ := U.newF n2 hX; clear hX
          walk_at "w"
          intro p3 n3; generalize hX : upd _ p3 _ = H5; obtain ⟨s5, g5⟩ := U.newF n3 hX; clear hX
          walk_at "w"
          have pl5 := ((pl2.same s3).same s4).same s5
          have z3 := pool_ne ((pl2.same s3).same s4) n3
          refine ⟨pl5, by decide, by decide, fun j3 H6 hj3 pl6 s6 => ?_⟩
          have L6 := Lst.pool s6 pl5 pl6
          have g5' := s6 _ _ z3 g5
          have g4' := L6.no (s5 _ _ g4) nofun
          have g3' := L6.no (s5 _ _ (s4 _ _ g3)) nofun
          obtain ⟨u, hu⟩ : ∃ u, mM[j3]? = some u := ⟨_, List.getElem?_eq_getElem (show j3 < 3 by omega)⟩
          have all : IsAll K H6 mM [.non, .non, .ref p2] := .cons .non (.cons .non (.cons (.mk g4' (.cons (.mk g3' (.cons (.str _ (by decide +kernel)) (.cons (.int _) .nil))) .nil)) .nil))
          obtain ⟨uv, huv, hui⟩ := all.nth' hu
          refine Or.inl ⟨_, _, _, _, rfl, rfl, SqL.of g5', U.atN j3 rfl huv, ?_⟩
          walk_at "w"
          intro p4 n4; generalize hX : upd _ p4 _ = H7; obtain ⟨s7, g7⟩ := U.newF n4 hX; clear hX
          exact k _ _ H7 (.number (by omega) (List.mem_of_getElem? hu)) (.mk g7 (.cons (.str _ (by decide +kernel)) (.cons (.int _) (.cons (hui.keep s7) .nil)))) (pl6.same s7) ((((((s1.trans s2).trans (.of s3)).trans (.of s4)).trans (.of s5)).trans s6).trans (.of s7))
        · walk_at "w"
          have hd0 : 0 < d := by omega
          obtain ⟨d', rfl⟩ : ∃ d', d = d' + 1 := ⟨d - 1, by omega⟩
          refine U.ifDi (fun h2 => ?_) (fun h2 => ?_)
          · walk_at "w"
            intro p1 n1; generalize hX : upd _ p1 _ = H2; obtain ⟨s2, g2⟩ := U.newF n1 hX; clear hX
            walk_at "w"
            intro p2 n2; generalize hX : upd _ p2 _ = H3; obtain ⟨s3, g3⟩ := U.newF n2 hX; clear hX
            walk_at "w"
            intro p3 n3; generalize hX : upd _ p3 _ = H4; obtain ⟨s4, g4⟩ := U.newF n3 hX; clear hX
            walk_at "w"
            intro p4 n4; generalize hX : upd _ p4 _ = H5; obtain ⟨s5, g5⟩ := U.newF n4 hX; clear hX
            walk_at "w"
            intro p5 n5; generalize hX : upd _ p5 _ = H6; obtain ⟨s6, g6⟩ := U.newF n5 hX; clear hX
            walk_at "w"
            intro p6 n6; generalize hX : upd _ p6 _ = H7; obtain ⟨s7, g7⟩ := U.newF n6 hX; clear hX
            walk_at "w"
            intro p7 n7; generalize hX : upd _ p7 _ = H8; obtain ⟨s8, g8⟩ := U.newF n7 hX; clear hX
            walk_at "w"
            have pl7 := ((((((pl1.same s2).same s3).same s4).same s5).same s6).same s7)
            have z7 := pool_ne pl7 n7
            refine ⟨pl7.same s8, by decide, by decide, fun j3 H9 hj3 pl9 s9 => ?_⟩
            have L9 := Lst.pool s9 (pl7.same s8) pl9
            have c8 := s8
            have c7 := s7.trans c8
            have c6 := s6.trans c7
            have c5 := s5.trans c6
            have c4 := s4.trans c5
            have c3 := s3.trans c4
            have is1 : Is K H8 nameX (.ref p1) := .mk (c3 _ _ g2) (.cons (.str _ (by decide +kernel)) (.cons (.str _ (by decide +kernel)) .nil))
            have is2 : Is K H8 (.tup [.str "fail", .str "gap"]) (.ref p2) := .mk (c4 _ _ g3) (.cons (.str _ (by decide +kernel)) (.cons (.str _ (by decide +kernel)) .nil))
            have is3 : Is K H8 (.tup [.str "number", .int 1, .non]) (.ref p3) := .mk (c5 _ _ g4) (.cons (.str _ (by decide +kernel)) (.cons (.int _) (.cons .non .nil)))
            have is4 : Is K H8 nameX (.ref p4) := .mk (c6 _ _ g5) (.cons (.str _ (by decide +kernel)) (.cons (.str _ (by decide +kernel)) .nil))
            have is5 : Is K H8 nameX (.ref p5) := .mk (c7 _ _ g6) (.cons (.str _ (by decide +kernel)) (.cons (.str _ (by decide +kernel)) .nil))
            have is6 : Is K H8 (.tup [.str "call", nameX, nameX]) (.ref p6) := .mk (c8 _ _ g7) (.cons (.str _ (by decide +kernel)) (.cons is4 (.cons is5 .nil)))
            have all : IsAll K H9 bodies [.ref p1, .ref p2, .ref p3, .ref p6] := IsAll.lst L9 (.cons is1 (.cons is2 (.cons is3 (.cons is6 .nil))))
            obtain ⟨u, hu⟩ : ∃ u, bodies[j3]? = some u := ⟨_, List.getElem?_eq_getElem (show j3 < 4 by omega)⟩
            obtain ⟨uv, huv, hui⟩ := all.nth' hu
            refine Or.inl ⟨_, _, _, _, rfl, rfl, SqL.of (s9 _ _ z7 g8), U.atN j3 rfl huv, ?_⟩
            walk_at "w"
            intro p8 n8; generalize hX : upd _ p8 _ = Ha; obtain ⟨sa, ga⟩ := U.newF n8 hX; clear hX
            exact k _ _ Ha (.fn (List.mem_of_getElem? hu)) (.mk ga (.cons (.str _ (by decide +kernel)) (.cons (.str _ (by decide +kernel)) (.cons (hui.keep sa) .nil)))) (pl9.same sa) (((s1.trans (.of (s2.trans c3))).trans s9).trans (.of sa))
          · walk_at "w"
            refine U.ifDi (fun h3 => ?_) (fun h3 => ?_)
            · walk_at "w"
              intro p1 n1; generalize hX : upd _ p1 _ = H2; obtain ⟨s2, g2⟩ := U.newF n1 hX; clear hX
              walk_at "w"
              have z1 := pool_ne pl1 n1
              refine ⟨pl1.same s2, by decide, by decide, fun j3 H3 hj3 pl3 s3 => ?_⟩
              have g3 := s3 _ _ z1 g2
              refine ⟨_, rfl, ?_⟩
              refine Or.inr ⟨_, _, rfl, SqL.of g3, fun q nq => ?_⟩
              have ew : cutV ((labsT : List Str).map V.str) none (some (j3 : Int)) = (labsT.take j3).map V.str := by
                unfold cutV
                rw [HT.sIx_nat, List.map_take]
                show List.take (min j3 3 - 0) (List.drop 0 (labsT.map V.str)) = _
                rw [List.drop_zero, Nat.sub_zero]
                rw [Nat.min_eq_left (by omega)]
              generalize hX : upd _ q _ = H4
              obtain ⟨s4, g4⟩ := U.newF nq hX
              clear hX
              have g4 : H4 q = some (.lst ((labsT.take j3).map V.str)) := g4.trans (congrArg (fun l => some (HO.lst l)) ew)
              have pl4 := pl3.same s4
              have qp := pool_ne pl3 nq
              walk_at "w"
              refine ⟨⟨_, SqL.of g4⟩, fun D nD => ?_⟩
              have Dp := pool_ne pl4 nD
              have Dq : D ≠ q := fun z => by rw [z, g4] at nD; cases nD
              have s14 : U.SameBut p H H4 := ((s1.trans (.of s2)).trans s3).trans (.of s4)
              have nDH : H D = none := s14.free Dp nD
              refine lc_list (xs := (labsT.take j3).map V.str) (fun i Hj => ∃ es vs, VE d' es ((labsT.take j3).take i) ∧ IsAll K Hj es vs ∧ Hj D = some (.lst vs) ∧ vs.length = i ∧ Hj q = some (.lst ((labsT.take j3).map V.str)) ∧ PoolAt Hj p ∧ U.SameBut p H Hj)
                ⟨[], [], .nil, .nil, upd_same, rfl, (upd_ne (fun z => Dq z.symm)).trans g4, pool_up pl4 Dp, s14.up nDH⟩ (fun i Hj _ st => ?_) ?_ ?_
              · obtain ⟨_, _, _, _, _, _, h, _⟩ := st
                exact SqL.of h
              · rintro i x Hj hx ⟨es, vs, he, ha, gD, hvl, gqj, plj, btj⟩
                rw [List.getElem?_map] at hx
                obtain ⟨z, hz, rfl⟩ := Option.map_eq_some_iff.mp hx
                have hi : i < (labsT.take j3).length := (List.getElem?_eq_some_iff.mp hz).1
                have hi3 : i < 3 := by
                  rw [List.length_take] at hi
                  exact Nat.lt_of_lt_of_le hi (Nat.min_le_right _ _)
                refine ⟨rfl, ?_⟩
                walk_at "w"
                refine spVT_mk (d := d') (by omega) (congrArg (fun i => [V.ref p, V.int i]) (show ((d' + 1 : Nat) : Int) - 1 = (d' : Int) by omega)) plj fun x v H5 hx hi5 pl5 s5 => ?_
                have L5 := Lst.pool s5 plj pl5
                have gD5 := s5 _ _ Dp gD
                have gq5 := s5 _ _ qp gqj
                walk_at "w"
                intro p6 n6; generalize hX : upd _ p6 _ = H6; obtain ⟨s6, g6⟩ := U.newF n6 hX; clear hX
                have gD6 := s6 _ _ gD5
                have L6 : Lst H6 (upd H6 D (.lst (vs ++ [V.ref p6]))) := .but (U.SameBut.refl _ _).upd ⟨_, gD6⟩ ⟨_, upd_same⟩
                refine ⟨vs, gD6, U.szl (by omega), es ++ [.tup [.str z, x]], vs ++ [.ref p6], ?_, ?_, upd_same, ?_, ?_, ?_, ?_⟩
                · rw [List.take_add_one, hz]
                  exact he.snoc hx
                · exact IsAll.lst L6 (((IsAll.lst L5 ha).keep s6).app (.cons (.mk g6 (.cons (.str _ (labs_len z (List.mem_of_mem_take (List.mem_of_getElem? hz)))) (.cons (hi5.keep s6) .nil))) .nil))
                · rw [List.length_append, hvl] <;> rfl
                · rw [upd_ne (fun z => Dq z.symm)]
                  exact s6 _ _ gq5
                · exact pool_up (pl5.same s6) Dp
                · exact ((btj.trans s5).trans (.of s6)).up nDH
              · rintro Hj ⟨es, vs, he, ha, gD, hvl, gqj, plj, btj⟩
                rw [List.length_map, List.take_of_length_le (Nat.le_refl _)] at he
                walk_at "w"
                refine ⟨D, vs, rfl, SqL.of gD, ?_⟩
                intro p6 _ ocp6 odp6 n6; generalize hX : upd _ p6 _ = H6; obtain ⟨s6, g6⟩ := U.newF n6 hX; clear hX
                walk_at "w"
                intro p7 n7; generalize hX : upd _ p7 _ = H7; obtain ⟨s7, g7⟩ := U.newF n7 hX; clear hX
                exact k _ _ H7 (.record he) (.mk g7 (.cons (.str _ (by decide +kernel)) (.cons (Is.keep s7 (.mkF g6 ocp6 odp6 (ha.keep s6))) .nil))) ((plj.same s6).same s7) (btj.trans ((U.SameBut.of s6).trans (.of s7)))
            · walk_at "w"
              intro p1 n1; generalize hX : upd _ p1 _ = H2; obtain ⟨s2, g2⟩ := U.newF n1 hX; clear hX
              walk_at "w"
              have z1 := pool_ne pl1 n1
              refine ⟨pl1.same s2, by decide, by decide, fun j3 H3 hj3 pl3 s3 => ?_⟩
              have g3 := s3 _ _ z1 g2
              obtain ⟨z, hz⟩ : ∃ z, tagsT[j3]? = some z := ⟨_, List.getElem?_eq_getElem (show j3 < 3 by omega)⟩
              have hzm := List.mem_of_getElem? hz
              refine Or.inl ⟨_, _, _, _, rfl, rfl, SqL.of g3, U.atN j3 rfl (show (tagsT.map V.str)[j3]? = some (V.str z) by rw [List.getElem?_map, hz] <;> rfl), ?_⟩
              walk_at "w"
              refine spVT_mk (d := d') (by omega) (congrArg (fun i => [V.ref p, V.int i]) (show ((d' + 1 : Nat) : Int) - 1 = (d' : Int) by omega)) pl3 fun x v H4 hx hi pl4 s4 => ?_
              walk_at "w"
              intro p2 n2; generalize hX : upd _ p2 _ = H5; obtain ⟨s5, g5⟩ := U.newF n2 hX; clear hX
              exact k _ _ H5 (.tag hzm hx) (.mk g5 (.cons (.str _ (by decide +kernel)) (.cons (.str _ (tags_len z hzm)) (.cons (hi.keep s5) .nil)))) (pl4.same s5) ((((s1.trans (.of s2)).trans s3).trans s4).trans (.of s5))
end
section
variable {P : Program} {w : World} {K : PySem.W.Frag} {mg : Str → Option Value} {base : Heap} {A : Ad}
/-- all but two is as it was -/
def But2 (b l : Addr) (H H' : Hp) : Prop := ∀ c o, c ≠ b → c ≠ l → H c = some o → H' c = some o
theorem But2.refl (b l : Addr) (H : Hp) : But2 b l H H := fun _ _ _ _ h => h
theorem But2.trans {b l : Addr} {H H1 H2 : Hp} (a : But2 b l H H1) (c : But2 b l H1 H2) : But2 b l H H2 := fun x o n m h => c x o n m (a x o n m h)
theorem But2.of {b l : Addr} {H H1 : Hp} (a : Same H H1) : But2 b l H H1 := fun x o _ _ h => a x o h
theorem But2.ofBut {b l : Addr} {H H1 : Hp} (a : U.SameBut b H H1) : But2 b l H H1 := fun x o n _ h => a x o n h
theorem But2.ofBut' {b l : Addr} {H H1 : Hp} (a : U.SameBut l H H1) : But2 b l H H1 := fun x o _ m h => a x o m h
theorem But2.lst {b l : Addr} {H H1 : Hp} (a : But2 b l H H1) (hb : ∃ x, H b = some (.lst x)) (hb' : ∃ x, H1 b = some (.lst x)) (hl : ∃ x, H l = some (.lst x)) (hl' : ∃ x, H1 l = some (.lst x)) : Lst H H1 := fun c o h => by
  by_cases h1 : c = b
  · obtain ⟨x, e⟩ := hb
    obtain ⟨y, e'⟩ := hb'
    rw [h1, e] at h
    exact .inr ⟨x, y, (Option.some.inj h).symm, by rw [h1]; exact e'⟩
  · by_cases h2 : c = l
    · obtain ⟨x, e⟩ := hl
      obtain ⟨y, e'⟩ := hl'
      rw [h2, e] at h
      exact .inr ⟨x, y, (Option.some.inj h).symm, by rw [h2]; exact e'⟩
    · exact .inl (a c o h1 h2 h)
theorem But2.ne {b l p : Addr} {H H1 : Hp} (a : But2 b l H H1) (hb : p ≠ b) (hl : p ≠ l) (h : H1 p = none) : H p = none := by
  cases q : H p with
  | none => rfl
  | some o =>
    rw [a p o hb hl q] at h
    cases h
theorem But2.thenBut {b l p : Addr} {H H1 H2 : Hp} (s : But2 b l H H1) (u : U.SameBut p H1 H2) (np : H p = none) : But2 b l H H2 := fun c o n m h => u c o (fun z => by rw [z, np] at h; cases h) (s c o n m h)
mutual
/-- a drawn pattern -/
inductive PP : PV → Prop
  | any : PP (.tup [.str "any"])
  | bind (z : Str) : PP (.tup [.str "bind", .str z])
  | tag (t : Str) {c : PV} (hc : PP c) : PP (.tup [.str "tag", .str t, c])
  | record {es : List PV} (h : PEnt es) (hl : es.length ≤ 4) : PP (.tup [.str "record", .tup es])
inductive PEnt : List PV → Prop
  | nil : PEnt []
  | cons (l : Str) {p : PV} {es : List PV} (hp : PP p) (t : PEnt es) : PEnt (.tup [.str l, p] :: es)
end
theorem PEnt.app : ∀ {es fs : List PV}, PEnt es → PEnt fs → PEnt (es ++ fs)
  | _, _, .nil, h => h
  | _, _, .cons l hp t, h => .cons l hp (t.app h)
def anyP : PV := .tup [.str "any"]
def patM : List PV := [.tup [.str "record", .tup []], .tup [.str "tag", .str "A", anyP], .tup [.str "record", .tup [.tup [.str "a", anyP]]], anyP]
theorem patM_pp : ∀ x ∈ patM, PP x := fun x hx => by
  simp only [patM, List.mem_cons, List.not_mem_nil, or_false] at hx
  rcases hx with rfl | rfl | rfl | rfl
  · exact .record .nil (by decide)
  · exact .tag _ .any
  · exact .record (.cons _ .any .nil) (by decide)
  · exact .any
theorem ok_law_tree_of (T : Top w K mg A) : FnOk P w K mg base CX0 6 A.a_law_tree_of A.fd_law_tree_of ["pool", "deep"] (spVT K 4) := ok_treeR T 4
def spPP (K : PySem.W.Frag) : Nat → Sp
  | 0 => fun _ _ _ _ => False
  | m + 1 => fun vs H Q _ => ∃ (p l : Addr) (d : Nat) (x : PV) (v : V) (ws : List Str), vs = [.ref p, v, .ref l] ∧ PoolAt H p ∧ l ≠ p ∧ H l = some (.lst (ws.map V.str)) ∧ ws.length ≤ 3 ∧ (∀ z ∈ ws, z.length ≤ 10 ∧ PySem.PyData.strOk z = true) ∧ VT d x ∧ Is K H x v ∧ d ≤ m ∧
    ∀ (y : PV) (u : V) (H' : Hp) (ws' : List Str), PP y → Is K H' y u → PoolAt H' p → H' l = some (.lst (ws'.map V.str)) → ws'.length ≤ 3 → (∀ z ∈ ws', z ∈ ws) → But2 p l H H' → Q u H'
theorem VE.len {d : Nat} : ∀ {es : List PV} {ls : List Str}, VE d es ls → es.length = ls.length
  | _, _, .nil => rfl
  | _, _, .cons _ t => congrArg (· + 1) t.len
theorem VE.nth {d : Nat} : ∀ {es : List PV} {ls : List Str}, VE d es ls → ∀ {i : Nat} {x : PV}, es[i]? = some x → ∃ l e, x = .tup [.str l, e] ∧ ls[i]? = some l ∧ VT d e
  | _, _, .cons (l := l) (e := e) h t, 0, x, q => by
    simp at q
    exact ⟨l, e, q.symm, rfl, h⟩
  | _, _, .cons h t, i + 1, x, q => by
    simp at q
    obtain ⟨l, e, h1, h2, h3⟩ := t.nth q
    exact ⟨l, e, h1, by simpa using h2, h3⟩
theorem But2.up {b l p : Addr} {H H1 : Hp} {o : HO} (s : But2 b l H H1) (n : H p = none) : But2 b l H (upd H1 p o) := fun c u n1 n2 h => by
  rw [upd_ne (fun z => by rw [z, n] at h; cases h)]
  exact s c u n1 n2 h
theorem spPP_mk {m d : Nat} {p l : Addr} {x : PV} {v : V} {ws : List Str} {vs : List V} {H : Hp} {Q : VK} {E : XK} (hm : d + 1 ≤ m) (e : vs = [.ref p, v, .ref l]) (pl : PoolAt H p) (lp : l ≠ p) (hl : H l = some (.lst (ws.map V.str))) (hwl : ws.length ≤ 3) (hws : ∀ z ∈ ws, z.length ≤ 10 ∧ PySem.PyData.strOk z = true) (hx : VT d x) (hxv : Is K H x v)
    (k : ∀ (y : PV) (u : V) (H' : Hp) (ws' : List Str), PP y → Is K H' y u → PoolAt H' p → H' l = some (.lst (ws'.map V.str)) → ws'.length ≤ 3 → (∀ z ∈ ws', z ∈ ws) → But2 p l H H' → Q u H') : spPP K m vs H Q E := by
  cases m with
  | zero => exact absurd hm (Nat.not_succ_le_zero _)
  | succ m => exact ⟨p, l, d, x, v, ws, e, pl, lp, hl, hwl, hws, hx, hxv, by omega, k⟩
set_option maxHeartbeats 4000000 in
theorem ok_patR (T : Top w K mg A) : ∀ m : Nat, FnOk P w K mg base CX0 (2 + m) A.a_law_pattern_of A.fd_law_pattern_of ["pool", "tree", "words"] (spPP K m)
  | 0 => T.F_law_pattern_of.ok sc_law_pattern_of (fun vs H Q E h => False.elim h) (fun cdv A outer s H vs Q E hr h => False.elim h)
  | m + 1 => by
    have ih := ok_patR T m
    refine T.F_law_pattern_of.ok sc_law_pattern_of (fun vs H Q E h => ?_) (fun cdv A' outer s H vs Q E hr h => ?_)
    · obtain ⟨p, l, d, x, v, ws, rfl, _⟩ := h
      rfl
    · obtain ⟨p, l, d, x, v, ws, rfl, pl, lp, hl, hwl, hws, hx, hxv, hd, k⟩ := h
      have hr : Room (2 + m) _ := hr
      refine ⟨_, (pss_cons (ps_set (i := 3) sc_law_pattern_of.nd rfl (Or.inl rfl) (pe_call (ok_law_draw T) (hr.mono (by omega)) rfl T.m_law_draw T.F_law_draw.kp T.b_law_draw .nil pass0 (pa_cons (pv 0) (pa_cons pe_int pa_nil))))
    (pss_cons (ps_if (pt_cmpR (U.uEq (K := K) rfl hr.units) (pv 3) pe_int (nomark _)) (pss_one (ps_ret (pe_tup (pa_cons pe_str pa_nil)))) pss_nil)
    (pss_cons (ps_if (PW.pt (pw_and (pt_cmpR (U.uEq (K := K) rfl hr.units) (pv 3) pe_int (nomark _)) (pw_and1 (pt_cmpR (U.uNe (K := K) rfl hr.units) (pv 2) (pe_lst pa_nil) (nomark _))))) (pss_one (ps_ret (pe_tup (pa_cons pe_str (pa_cons (pe_bm0 PySem.F.plainAttrs_list PySem.F.slot_list_pop PySem.F.type_list_pop mt_pop (pv 2)) pa_nil))))) pss_nil)
    (pss_cons (ps_if (PW.pt (pw_or (pt_cmpR (U.uEq (K := K) rfl hr.units) (pv 3) pe_int (nomark _)) (pw_or1 (pt_cmpR (U.uIn (K := K) rfl) (pe_ix (U.uIx (K := K) rfl) (pv 1) pe_int (fun _ _ => rfl)) (pe_lst (pa_cons pe_str (pa_cons pe_str pa_nil))) rfl)))) (pss_one (ps_ret (pe_ix (U.uIx (K := K) rfl) (pe_lst (pa_cons (pe_tup (pa_cons pe_str (pa_cons (pe_tupF pa_nil) pa_nil))) (pa_cons (pe_tup (pa_cons pe_str (pa_cons pe_str (pa_cons (pe_tup (pa_cons pe_str pa_nil)) pa_nil)))) (pa_cons (pe_tup (pa_cons pe_str (pa_cons (pe_tup (pa_cons (pe_tup (pa_cons pe_str (pa_cons (pe_tup (pa_cons pe_str pa_nil)) pa_nil))) pa_nil)) pa_nil))) (pa_cons (pe_tup (pa_cons pe_str pa_nil)) pa_nil))))) (pe_call (ok_law_draw T) (hr.mono (by omega)) rfl T.m_law_draw T.F_law_draw.kp T.b_law_draw .nil pass0 (pa_cons (pv 0) (pa_cons pe_int pa_nil))) (fun _ _ => rfl)))) pss_nil)
    (pss_cons (ps_if (pt_cmpR (U.uEq (K := K) rfl hr.units) (pe_ix (U.uIx (K := K) rfl) (pv 1) pe_int (fun _ _ => rfl)) pe_str (nomark _)) (pss_cons (ps_set (i := 4) sc_law_pattern_of.nd rfl (Or.inl rfl) (pe_ifExp (pt_cmpR U.uGt (pe_call (ok_law_draw T) (hr.mono (by omega)) rfl T.m_law_draw T.F_law_draw.kp T.b_law_draw .nil pass0 (pa_cons (pv 0) (pa_cons pe_int pa_nil))) pe_int (nomark _)) (pe_ix (U.uIx (K := K) rfl) (pv 1) pe_int (fun _ _ => rfl)) pe_str))
    (pss_one (ps_ret (pe_tup (pa_cons pe_str (pa_cons (pv 4) (pa_cons (pe_call ih (hr.mono (by omega)) rfl T.m_law_pattern_of T.F_law_pattern_of.kp T.b_law_pattern_of .nil pass0 (pa_cons (pv 0) (pa_cons (pe_ix (U.uIx (K := K) rfl) (pv 1) pe_int (fun _ _ => rfl)) (pa_cons (pv 2) pa_nil)))) pa_nil))))))) pss_nil)
    (pss_cons (ps_setLc (i := 5) (own := [("label", 6), ("item", 7)]) rfl sc_law_pattern_of.nd rfl rfl (sw_true rfl rfl rfl (by decide +kernel)) (pi_tup (pe_ix (U.uIx (K := K) rfl) (pv 1) pe_int (fun _ _ => rfl))) (blkOk_by (own := [("label", 6), ("item", 7)]) (N := nm_law_pattern_of) (sc := defScope s_law_pattern_of) (by decide +kernel)) (fun _ _ _ _ _ => (pg_tupK (K := K) (n := 2) rfl rfl (pgs_cons (pg_name (i := 6) sc_law_pattern_of.nd rfl (Or.inl rfl)) (pgs_cons (pg_name (i := 7) sc_law_pattern_of.nd rfl (Or.inl rfl)) pgs_nil)))) (fun _ _ _ _ _ => pts_one (pt_cmpR U.uGt (pe_call (ok_law_draw T) (hr.mono (by omega)) rfl T.m_law_draw T.F_law_draw.kp T.b_law_draw .nil pass0 (pa_cons (pv 0) (pa_cons pe_int pa_nil))) pe_int (nomark _))) (fun _ _ _ _ _ => (pe_tup (pa_cons (pv 6) (pa_cons (pe_call ih (hr.mono (by omega)) rfl T.m_law_pattern_of T.F_law_pattern_of.kp T.b_law_pattern_of .nil pass0 (pa_cons (pv 0) (pa_cons (pv 7) (pa_cons (pv 2) pa_nil)))) pa_nil)))))
    (pss_one (ps_ret (pe_tup (pa_cons pe_str (pa_cons (pe_callTy cr_tupF (by rfl) T.n_tuple (by decide +kernel) (pa_cons (pe_op U.uAdd (pv 5) (pe_op op_rep (pe_lst (pa_cons (pe_tup (pa_cons pe_str (pa_cons (pe_tup (pa_cons pe_str pa_nil)) pa_nil))) pa_nil)) (pe_callTy call_int1 (by rfl) T.n_int (by decide +kernel) (pa_cons (pe_cmpR (U.uEq (K := K) rfl hr.units) (pe_call (ok_law_draw T) (hr.mono (by omega)) rfl T.m_law_draw T.F_law_draw.kp T.b_law_draw .nil pass0 (pa_cons (pv 0) (pa_cons pe_int pa_nil))) pe_int (nomark _)) pa_nil)))) pa_nil)) pa_nil))))))))))), ?_⟩
      walk_at "w"
      intro j H1 hj pl1 s1
      walk_at "w"
      --BODY
      have hl1 := s1 _ _ lp hl
      have hx1 := hxv.lst (Lst.pool s1 pl pl1)
      have b1 : But2 p l H H1 := .ofBut s1
      refine U.ifDi (fun h0 => ?_) (fun h0 => ?_)
      · walk_at "w"
        intro q nq; generalize hX : upd _ q _ = H2; obtain ⟨s2, g2⟩ := U.newF nq hX; clear hX
        exact k _ _ H2 ws .any (.mk g2 (.cons (.str _ (by decide +kernel)) .nil)) (pl1.same s2) (s2 _ _ hl1) hwl (fun z hz => hz) (b1.trans (.of s2))
      · walk_at "w"
        refine U.ifDi (fun h1 => ?_) (fun h1 => ?_)
        · walk_at "w"
          intro q nq; generalize hX : upd _ q _ = H2; obtain ⟨s2, g2⟩ := U.newF nq hX; clear hX
          walk_at "w"
          have hl2 := s2 _ _ hl1
          have pl2 := pl1.same s2
          have b2 : But2 p l H H2 := b1.trans (.of s2)
          have hx2 := hx1.keep s2
          refine Or.inr ⟨.list (U.strD ws), .list [], .lst (SqL.of hl2) (U.dpStrs ws), .lst (SqL.of g2) .nil, U.shStrs ws (fun z hz => (hws z hz).2), rfl, ?_⟩
          rcases hcs : ws with _ | ⟨z0, r0⟩
          · refine ⟨false, rfl, ?_⟩
            walk_at "w"
            cases hx with
            | number hi hu =>
              cases hx2 with
              | tup tp ha =>
                cases ha with
                | cons hh0 ha =>
                  cases hh0
                  walk_at "w"
                  refine Or.inr (Or.inl ⟨_, _, _, _, rfl, rfl, tp.1, U.atN 0 rfl rfl, ?_⟩)
                  walk_at "w"
                  intro qa na; generalize hX : upd _ qa _ = Hy; obtain ⟨sy, gy⟩ := U.newF na hX; clear hX
                  walk_at "w"
                  walk_at "w"
                  intro p1 _ ocp1 odp1 n1; generalize hX : upd _ p1 _ = Ha; obtain ⟨sa, ga⟩ := U.newF n1 hX; clear hX
                  walk_at "w"
                  intro p2 n2; generalize hX : upd _ p2 _ = Hb; obtain ⟨sb, gb⟩ := U.newF n2 hX; clear hX
                  walk_at "w"
                  intro p3 n3; generalize hX : upd _ p3 _ = Hc; obtain ⟨sc, gc⟩ := U.newF n3 hX; clear hX
                  walk_at "w"
                  intro p4 n4; generalize hX : upd _ p4 _ = Hd; obtain ⟨sd, gd⟩ := U.newF n4 hX; clear hX
                  walk_at "w"
                  intro p5 n5; generalize hX : upd _ p5 _ = He; obtain ⟨se, ge⟩ := U.newF n5 hX; clear hX
                  walk_at "w"
                  intro p6 n6; generalize hX : upd _ p6 _ = Hf; obtain ⟨sf, gf⟩ := U.newF n6 hX; clear hX
                  walk_at "w"
                  intro p7 n7; generalize hX : upd _ p7 _ = Hg; obtain ⟨sg, gg⟩ := U.newF n7 hX; clear hX
                  walk_at "w"
                  intro p8 n8; generalize hX : upd _ p8 _ = Hh; obtain ⟨sh, gh⟩ := U.newF n8 hX; clear hX
                  walk_at "w"
                  intro p9 n9; generalize hX : upd _ p9 _ = Hi; obtain ⟨si, gi⟩ := U.newF n9 hX; clear hX
                  walk_at "w"
                  intro p10 n10; generalize hX : upd _ p10 _ = Hj; obtain ⟨sj, gj⟩ := U.newF n10 hX; clear hX
                  walk_at "w"
                  have ei := sj
                  have eh := si.trans ei
                  have eg := sh.trans eh
                  have ef := sg.trans eg
                  have ee := sf.trans ef
                  have ed := se.trans ee
                  have ec := sd.trans ed
                  have eb := sc.trans ec
                  have ea := sb.trans eb
                  have e0 := sa.trans ea
                  have an : ∀ {H0 : Hp} {q : Addr}, H0 q = some (.tup [V.str (Str.ofString "any")]) → Is K H0 anyP (.ref q) := fun h => .mk h (.cons (.str _ (by decide +kernel)) .nil)
                  have i2 : Is K Hj (.tup [.str "record", .tup []]) (.ref p2) := .mk (eb _ _ gb) (.cons (.str _ (by decide +kernel)) (.cons (.mkF (ea _ _ ga) ocp1 odp1 .nil) .nil))
                  have i4 : Is K Hj (.tup [.str "tag", .str "A", anyP]) (.ref p4) := .mk (ed _ _ gd) (.cons (.str _ (by decide +kernel)) (.cons (.str _ (by decide +kernel)) (.cons (an (ec _ _ gc)) .nil)))
                  have i6 : Is K Hj (.tup [.str "a", anyP]) (.ref p6) := .mk (ef _ _ gf) (.cons (.str _ (by decide +kernel)) (.cons (an (ee _ _ ge)) .nil))
                  have i8 : Is K Hj (.tup [.str "record", .tup [.tup [.str "a", anyP]]]) (.ref p8) := .mk (eh _ _ gh) (.cons (.str _ (by decide +kernel)) (.cons (.mk (eg _ _ gg) (.cons i6 .nil)) .nil))
                  have plj := (PoolAt.same pl2 sy).same e0
                  have zj := pool_ne (PoolAt.same (PoolAt.same pl2 sy) (((((((((sa.trans sb).trans sc).trans sd).trans se).trans sf).trans sg).trans sh).trans si))) n10
                  refine ⟨plj, by decide, by decide, fun j3 Hk hj3 plk sk => ?_⟩
                  have Lk := Lst.pool sk plj plk
                  have all : IsAll K Hk patM [.ref p2, .ref p4, .ref p8, .ref p9] := IsAll.lst Lk (.cons i2 (.cons i4 (.cons i8 (.cons (an (ei _ _ gi)) .nil))))
                  obtain ⟨u, hu⟩ : ∃ u, patM[j3]? = some u := ⟨_, List.getElem?_eq_getElem (show j3 < 4 by omega)⟩
                  obtain ⟨uv, huv, hui⟩ := all.nth' hu
                  refine Or.inl ⟨_, _, _, _, rfl, rfl, SqL.of (sk _ _ zj gj), U.atN j3 rfl huv, ?_⟩
                  walk_at "w"
                  exact k _ _ Hk ws (patM_pp _ (List.mem_of_getElem? hu)) hui plk (sk _ _ lp (e0 _ _ (sy _ _ hl2))) hwl (fun z hz => hz) ((b2.trans (.of sy)).trans ((But2.of e0).trans (.ofBut sk)))
            | fn hb =>
              cases hx2 with
              | tup tp ha =>
                cases ha with
                | cons hh0 ha =>
                  cases hh0
                  walk_at "w"
                  refine Or.inr (Or.inl ⟨_, _, _, _, rfl, rfl, tp.1, U.atN 0 rfl rfl, ?_⟩)
                  walk_at "w"
                  intro qa na; generalize hX : upd _ qa _ = Hy; obtain ⟨sy, gy⟩ := U.newF na hX; clear hX
                  walk_at "w"
                  walk_at "w"
                  intro p1 _ ocp1 odp1 n1; generalize hX : upd _ p1 _ = Ha; obtain ⟨sa, ga⟩ := U.newF n1 hX; clear hX
                  walk_at "w"
                  intro p2 n2; generalize hX : upd _ p2 _ = Hb; obtain ⟨sb, gb⟩ := U.newF n2 hX; clear hX
                  walk_at "w"
                  intro p3 n3; generalize hX : upd _ p3 _ = Hc; obtain ⟨sc, gc⟩ := U.newF n3 hX; clear hX
                  walk_at "w"
                  intro p4 n4; generalize hX : upd _ p4 _ = Hd; obtain ⟨sd, gd⟩ := U.newF n4 hX; clear hX
                  walk_at "w"
                  intro p5 n5; generalize hX : upd _ p5 _ = He; obtain ⟨se, ge⟩ := U.newF n5 hX; clear hX
                  walk_at "w"
                  intro p6 n6; generalize hX : upd _ p6 _ = Hf; obtain ⟨sf, gf⟩ := U.newF n6 hX; clear hX
                  walk_at "w"
                  intro p7 n7; generalize hX : upd _ p7 _ = Hg; obtain ⟨sg, gg⟩ := U.newF n7 hX; clear hX
                  walk_at "w"
                  intro p8 n8; generalize hX : upd _ p8 _ = Hh; obtain ⟨sh, gh⟩ := U.newF n8 hX; clear hX
                  walk_at "w"
                  intro p9 n9; generalize hX : upd _ p9 _ = Hi; obtain ⟨si, gi⟩ := U.newF n9 hX; clear hX
                  walk_at "w"
                  intro p10 n10; generalize hX : upd _ p10 _ = Hj; obtain ⟨sj, gj⟩ := U.newF n10 hX; clear hX
                  walk_at "w"
                  have ei := sj
                  have eh := si.trans ei
                  have eg := sh.trans eh
                  have ef := sg.trans eg
                  have ee := sf.trans ef
                  have ed := se.trans ee
                  have ec := sd.trans ed
                  have eb := sc.trans ec
                  have ea := sb.trans eb
                  have e0 := sa.trans ea
                  have an : ∀ {H0 : Hp} {q : Addr}, H0 q = some (.tup [V.str (Str.ofString "any")]) → Is K H0 anyP (.ref q) := fun h => .mk h (.cons (.str _ (by decide +kernel)) .nil)
                  have i2 : Is K Hj (.tup [.str "record", .tup []]) (.ref p2) := .mk (eb _ _ gb) (.cons (.str _ (by decide +kernel)) (.cons (.mkF (ea _ _ ga) ocp1 odp1 .nil) .nil))
                  have i4 : Is K Hj (.tup [.str "tag", .str "A", anyP]) (.ref p4) := .mk (ed _ _ gd) (.cons (.str _ (by decide +kernel)) (.cons (.str _ (by decide +kernel)) (.cons (an (ec _ _ gc)) .nil)))
                  have i6 : Is K Hj (.tup [.str "a", anyP]) (.ref p6) := .mk (ef _ _ gf) (.cons (.str _ (by decide +kernel)) (.cons (an (ee _ _ ge)) .nil))
                  have i8 : Is K Hj (.tup [.str "record", .tup [.tup [.str "a", anyP]]]) (.ref p8) := .mk (eh _ _ gh) (.cons (.str _ (by decide +kernel)) (.cons (.mk (eg _ _ gg) (.cons i6 .nil)) .nil))
                  have plj := (PoolAt.same pl2 sy).same e0
                  have zj := pool_ne (PoolAt.same (PoolAt.same pl2 sy) (((((((((sa.trans sb).trans sc).trans sd).trans se).trans sf).trans sg).trans sh).trans si))) n10
                  refine ⟨plj, by decide, by decide, fun j3 Hk hj3 plk sk => ?_⟩
                  have Lk := Lst.pool sk plj plk
                  have all : IsAll K Hk patM [.ref p2, .ref p4, .ref p8, .ref p9] := IsAll.lst Lk (.cons i2 (.cons i4 (.cons i8 (.cons (an (ei _ _ gi)) .nil))))
                  obtain ⟨u, hu⟩ : ∃ u, patM[j3]? = some u := ⟨_, List.getElem?_eq_getElem (show j3 < 4 by omega)⟩
                  obtain ⟨uv, huv, hui⟩ := all.nth' hu
                  refine Or.inl ⟨_, _, _, _, rfl, rfl, SqL.of (sk _ _ zj gj), U.atN j3 rfl huv, ?_⟩
                  walk_at "w"
                  exact k _ _ Hk ws (patM_pp _ (List.mem_of_getElem? hu)) hui plk (sk _ _ lp (e0 _ _ (sy _ _ hl2))) hwl (fun z hz => hz) ((b2.trans (.of sy)).trans ((But2.of e0).trans (.ofBut sk)))
            | record he =>
              cases hx2 with
              | tup tp ha =>
                cases ha with
                | cons hh0 ha =>
                  cases hh0
                  walk_at "w"
                  refine Or.inr (Or.inl ⟨_, _, _, _, rfl, rfl, tp.1, U.atN 0 rfl rfl, ?_⟩)
                  walk_at "w"
                  intro qa na; generalize hX : upd _ qa _ = Hy; obtain ⟨sy, gy⟩ := U.newF na hX; clear hX
                  walk_at "w"
                  have tpy := tp.keep sy
                  have hay := IsAll.keep sy ha
                  refine Or.inr (Or.inl ⟨_, _, _, _, rfl, rfl, tpy.1, U.atN 0 rfl rfl, ?_⟩)
                  walk_at "w"
                  cases hay with
                  | cons h1 hay2 =>
                    cases h1 with
                    | tup tp1 ha1 =>
                      refine Or.inr (Or.inl ⟨_, _, _, _, rfl, rfl, tpy.1, U.atN 1 rfl rfl, ?_⟩)
                      walk_at "w"
                      refine ⟨⟨_, tp1.1⟩, fun D nD => ?_⟩
                      have Dp := pool_ne (PoolAt.same pl2 sy) nD
                      have Dl : D ≠ l := fun z => by rw [z, (sy _ _ hl2)] at nD; cases nD
                      have nDH : H D = none := (b2.trans (.of sy)).ne Dp Dl nD
                      rename_i d' n' es p0 hq0 vs0 p1 vs1
                      refine lc_tup (xs := vs1) (fun i Hj => ∃ fs us ws', PEnt fs ∧ IsAll K Hj fs us ∧ Hj D = some (.lst us) ∧ us.length ≤ i ∧ PoolAt Hj p ∧ Hj l = some (.lst (ws'.map V.str)) ∧ ws'.length ≤ 3 ∧ (∀ z ∈ ws', z ∈ ws) ∧ But2 p l H Hj ∧ But2 p l Hy Hj)
                        ⟨[], [], ws, .nil, .nil, upd_same, Nat.le_refl _, pool_up (PoolAt.same pl2 sy) Dp, by rw [upd_ne (fun z => Dl z.symm)]; exact (sy _ _ hl2), hwl, fun z hz => hz, (b2.trans (.of sy)).up nDH, (But2.refl _ _ _).up nD⟩ (fun i Hj _ st => ?_) ?_ ?_
                      · obtain ⟨_, _, _, _, _, _, _, plj, hlj, _, _, _, byj⟩ := st
                        exact sqT_lstA (byj.lst (PoolAt.same pl2 sy).some plj.some ⟨_, (sy _ _ hl2)⟩ ⟨_, hlj⟩) tp1.1
                      · rintro i v0 Hj hv0 ⟨fs, us, ws1, hfs, hfu, gD, hul, plj, hlj, hw1, hm1, bj, byj⟩
                        have Lj : Lst Hy Hj := byj.lst (PoolAt.same pl2 sy).some plj.some ⟨_, (sy _ _ hl2)⟩ ⟨_, hlj⟩
                        obtain ⟨y0, hy0, hyv⟩ := (IsAll.lst Lj ha1).nth hv0
                        obtain ⟨lab, e, rfl, hlab, hve⟩ := he.nth hy0
                        cases hyv with
                        | tup tpi hai =>
                          cases hai with
                          | cons hi1 hai2 =>
                            cases hi1
                            cases hai2 with
                            | cons hi2 hai3 =>
                              cases hai3
                              rename_i t0 hll vi
                              refine ⟨t0, _, rfl, tpi.1, rfl, ?_⟩
                              walk_at "w"
                              refine ⟨rfl, ?_⟩
                              walk_at "w"
                              intro j5 H5 hj5 pl5 s5
                              walk_at "w"
                              have L5 := Lst.pool s5 plj pl5
                              have hl5 := s5 _ _ lp hlj
                              have gD5 := s5 _ _ Dp gD
                              have hi5 := Is.lst L5 hi2
                              have hfu5 := IsAll.lst L5 hfu
                              refine U.ifD (fun hc => ?_) (fun hc => ?_)
                              · walk_at "w"
                                refine spPP_mk (d := d') (by omega) rfl pl5 lp hl5 hw1 (fun z hz => hws z (hm1 z hz)) hve hi5 fun y6 u6 H6 ws6 hy6 hyu6 pl6 hl6 hw6 hm6 b6 => ?_
                                have gD6 := b6 _ _ Dp Dl gD5
                                have L6 : Lst H5 H6 := b6.lst pl5.some pl6.some ⟨_, hl5⟩ ⟨_, hl6⟩
                                walk_at "w"
                                intro p7 n7; generalize hX : upd _ p7 _ = H7; obtain ⟨s7, g7⟩ := U.newF n7 hX; clear hX
                                have gD7 := s7 _ _ gD6
                                have L7 : Lst H7 (upd H7 D (.lst (us ++ [V.ref p7]))) := .but (U.SameBut.refl _ _).upd ⟨_, gD7⟩ ⟨_, upd_same⟩
                                have hvl : vs1.length ≤ 3 := by
                                  have h1 := (IsAll.lst Lj ha1).len
                                  have h2 := he.len
                                  rw [← h1, h2, List.length_take]
                                  exact Nat.min_le_right _ _
                                have hivs := (List.getElem?_eq_some_iff.mp hv0).1
                                refine ⟨us, gD7, U.szl (by omega), fs ++ [.tup [.str lab, y6]], us ++ [.ref p7], ws6, hfs.app (.cons lab hy6 .nil), ?_, upd_same, ?_, pool_up (pl6.same s7) Dp, ?_, hw6, fun z hz => hm1 z (hm6 z hz), ?_, ?_⟩
                                · exact IsAll.lst L7 (((IsAll.lst L6 hfu5).keep s7).app (.cons (.mk g7 (.cons (.str _ hll) (.cons (hyu6.keep s7) .nil))) .nil))
                                · rw [List.length_append, List.length_singleton]
                                  omega
                                · rw [upd_ne (fun z => Dl z.symm)]
                                  exact s7 _ _ hl6
                                · exact (((bj.trans (.ofBut s5)).trans b6).trans (.of s7)).up nDH
                                · exact (((byj.trans (.ofBut s5)).trans b6).trans (.of s7)).up nD
                              · exact ⟨fs, us, ws1, hfs, hfu5, gD5, by omega, pl5, hl5, hw1, hm1, bj.trans (.ofBut s5), byj.trans (.ofBut s5)⟩
                      · rintro Hj ⟨fs, us, ws1, hfs, hfu, gD, hul, plj, hlj, hw1, hm1, bj, byj⟩
                        walk_at "w"
                        intro pA nA; generalize hX : upd _ pA _ = Ha; obtain ⟨sa, ga⟩ := U.newF nA hX; clear hX
                        walk_at "w"
                        intro pB nB; generalize hX : upd _ pB _ = Hb; obtain ⟨sb, gb⟩ := U.newF nB hX; clear hX
                        walk_at "w"
                        intro pC nC; generalize hX : upd _ pC _ = Hc; obtain ⟨sc, gc⟩ := U.newF nC hX; clear hX
                        walk_at "w"
                        have plb := (plj.same sa).same sb
                        have zC := pool_ne plb nC
                        refine ⟨plb.same sc, by decide, by decide, fun jd Hd hjd pld sd => ?_⟩
                        have Ld := Lst.pool sd (plb.same sc) pld
                        have sabc : Same Hj Hc := (sa.trans sb).trans sc
                        have lD : Dp = Dp := rfl
                        have gDd := sd _ _ Dp (sabc _ _ gD)
                        have gCd := sd _ _ zC gc
                        have hld := sd _ _ lp (sabc _ _ hlj)
                        have idd : Is K Hd (.tup [.str "d", anyP]) (.ref pB) := Is.lst Ld (Is.keep sc (.mk gb (.cons (.str _ (by decide +kernel)) (.cons (Is.keep sb (.mk ga (.cons (.str _ (by decide +kernel)) .nil))) .nil))))
                        have hfd := IsAll.lst Ld (IsAll.keep sabc hfu)
                        have bd : But2 p l H Hd := (bj.trans (.of sabc)).trans (.ofBut sd)
                        walk_at "w"
                        obtain ⟨n, hn, en⟩ : ∃ n : Nat, n ≤ 1 ∧ (if decide (V.int (jd : Int) = V.int 0) = true then (1 : Int) else 0) = (n : Int) := by
                          by_cases h : V.int (jd : Int) = V.int 0
                          · exact ⟨1, Nat.le_refl _, by rw [if_pos (decide_eq_true h)] <;> rfl⟩
                          · exact ⟨0, Nat.zero_le _, by rw [if_neg (fun q => h (of_decide_eq_true q))] <;> rfl⟩
                        rw [en]
                        have ext : ∃ gs gus, PEnt gs ∧ IsAll K Hd gs gus ∧ gus.length ≤ 1 ∧ (List.replicate (n : Int).toNat [V.ref pB]).flatten = gus := by
                          rcases Nat.le_one_iff_eq_zero_or_eq_one.mp hn with rfl | rfl
                          · exact ⟨[], [], .nil, .nil, Nat.zero_le _, rfl⟩
                          · exact ⟨[_], [_], .cons _ .any .nil, .cons idd .nil, Nat.le_refl _, rfl⟩
                        obtain ⟨gs, gus, hgs, hgu, hgl, eg⟩ := ext
                        refine ⟨pC, _, _, rfl, rfl, gCd, by omega, by omega, by show 1 * _ ≤ sizeLine; rw [Nat.one_mul, Int.toNat_natCast]; exact Nat.le_trans hn (by decide), fun pE nE => ?_⟩
                        rw [eg]
                        generalize hX : upd _ pE _ = He
                        obtain ⟨se, ge⟩ := U.newF nE hX
                        clear hX
                        have hvl : vs1.length ≤ 3 := by
                          have h1 := ha1.len
                          have h2 := he.len
                          rw [← h1, h2, List.length_take]
                          exact Nat.min_le_right _ _
                        refine Or.inr (Or.inr ⟨D, pE, _, _, rfl, rfl, se _ _ gDd, ge, U.sz (by omega), fun pF nF => ?_⟩)
                        generalize hX : upd _ pF _ = Hf
                        obtain ⟨sf, gf⟩ := U.newF nF hX
                        clear hX
                        walk_at "w"
                        refine ⟨pF, _, rfl, SqL.of gf, ?_⟩
                        intro pG _ ocpG odpG nG; generalize hX : upd _ pG _ = Hg; obtain ⟨sg, gg⟩ := U.newF nG hX; clear hX
                        walk_at "w"
                        intro pH nH; generalize hX : upd _ pH _ = Hh; obtain ⟨sh, gh⟩ := U.newF nH hX; clear hX
                        have seh : Same Hd Hh := ((se.trans sf).trans sg).trans sh
                        exact k _ _ Hh ws1 (.record (hfs.app hgs) (by rw [List.length_append, hfd.len, hgu.len]; omega)) (.mk gh (.cons (.str _ (by decide +kernel)) (.cons (Is.keep sh (.mkF gg ocpG odpG (IsAll.keep ((se.trans sf).trans sg) (hfd.app hgu)))) .nil))) (pld.same seh) (seh _ _ hld) hw1 hm1 (bd.trans (.of seh))
            | tag ht hc =>
              cases hx2 with
              | tup tp ha =>
                cases ha with
                | cons hh0 ha =>
                  cases hh0
                  walk_at "w"
                  refine Or.inr (Or.inl ⟨_, _, _, _, rfl, rfl, tp.1, U.atN 0 rfl rfl, ?_⟩)
                  walk_at "w"
                  intro qa na; generalize hX : upd _ qa _ = Hy; obtain ⟨sy, gy⟩ := U.newF na hX; clear hX
                  walk_at "w"
                  have tpy := tp.keep sy
                  have hay := IsAll.keep sy ha
                  refine Or.inr (Or.inl ⟨_, _, _, _, rfl, rfl, tpy.1, U.atN 0 rfl rfl, ?_⟩)
                  walk_at "w"
                  refine ⟨(PoolAt.same pl2 sy), by decide, by decide, fun j4 Hz hj4 plz sz => ?_⟩
                  have Lz := Lst.pool sz (PoolAt.same pl2 sy) plz
                  have hlz := sz _ _ lp (sy _ _ hl2)
                  have bz : But2 p l H Hz := (b2.trans (.of sy)).trans (.ofBut sz)
                  have tpz : SqT K Hz _ _ := sqT_lstA Lz tpy.1
                  have haz := IsAll.lst Lz hay
                  cases hay with
                  | cons h1 hay2 =>
                    cases h1
                    cases haz with
                    | cons h1z haz2 =>
                      cases haz2 with
                      | cons h2z haz3 =>
                        cases haz3
                        walk_at "w"
                        refine ifE_W (fun y H3 => H3 = Hz ∧ ∃ z : Str, y = .str z ∧ z.length ≤ 100) (fun _ K' kk => ?_) (fun _ K' kk => ?_) (fun y H3 hw => ?_)
                        · walk_at "w"
                          refine Or.inr (Or.inl ⟨_, _, _, _, rfl, rfl, tpz, U.atN 1 rfl rfl, ?_⟩)
                          exact kk _ _ ⟨rfl, _, rfl, tags_len _ ht⟩
                        · walk_at "w"
                          exact kk _ _ ⟨rfl, _, rfl, by decide +kernel⟩
                        · obtain ⟨rfl, z, rfl, hzl⟩ := hw
                          walk_at "w"
                          refine Or.inr (Or.inl ⟨_, _, _, _, rfl, rfl, tpz, U.atN 2 rfl rfl, ?_⟩)
                          walk_at "w"
                          refine spPP_mk (by omega) rfl plz lp hlz hwl hws hc h2z fun y u H4 ws4 hy hyu pl4 hl4 hwl4 hm4 b4 => ?_
                          walk_at "w"
                          intro p2 n2; generalize hX : upd _ p2 _ = H5; obtain ⟨s5, g5⟩ := U.newF n2 hX; clear hX
                          exact k _ _ H5 ws4 (.tag z hy) (.mk g5 (.cons (.str _ (by decide +kernel)) (.cons (.str _ hzl) (.cons (hyu.keep s5) .nil)))) (pl4.same s5) (s5 _ _ hl4) hwl4 hm4 ((bz.trans b4).trans (.of s5))
          · refine ⟨true, rfl, ?_⟩
            have hpos : 0 < ws.length := by rw [hcs]; exact Nat.succ_pos _
            walk_at "w"
            obtain ⟨y, hy⟩ : ∃ y, ws[ws.length - 1]? = some y := ⟨_, List.getElem?_eq_getElem (by omega)⟩
            have hym : y ∈ ws := List.mem_of_getElem? hy
            refine ⟨l, _, .str y, rfl, rfl, hl2, by rw [List.length_map, List.getElem?_map, hy]; rfl, ?_⟩
            have pl3 := pool_up (o := HO.lst ((ws.map V.str).dropLast)) pl2 lp
            have b3 : But2 p l H (upd H2 l (.lst ((ws.map V.str).dropLast))) := fun c u n1 n2 h => by
              rw [upd_ne n2]
              exact b2 c u n1 n2 h
            have hl3 : (upd H2 l (.lst ((ws.map V.str).dropLast))) l = some (.lst (ws.dropLast.map V.str)) := by rw [List.map_dropLast]; exact upd_same
            generalize upd H2 l (.lst ((ws.map V.str).dropLast)) = H3 at pl3 b3 hl3 ⊢
            walk_at "w"
            intro q4 n4; generalize hX : upd _ q4 _ = H4; obtain ⟨s4, g4⟩ := U.newF n4 hX; clear hX
            exact k _ _ H4 ws.dropLast (.bind y) (.mk g4 (.cons (.str _ (by decide +kernel)) (.cons (.str _ (by have := (hws y hym).1; omega)) .nil))) (pl3.same s4) (s4 _ _ hl3) (by rw [List.length_dropLast]; omega) (fun z hz => (List.dropLast_sublist _).subset hz) (b3.trans (.of s4))
        · walk_at "w"
          refine U.ifDi (fun h2 => ?_) (fun h2 => ?_)
          · walk_at "w"
            intro p1 _ ocp1 odp1 n1; generalize hX : upd _ p1 _ = Ha; obtain ⟨sa, ga⟩ := U.newF n1 hX; clear hX
            walk_at "w"
            intro p2 n2; generalize hX : upd _ p2 _ = Hb; obtain ⟨sb, gb⟩ := U.newF n2 hX; clear hX
            walk_at "w"
            intro p3 n3; generalize hX : upd _ p3 _ = Hc; obtain ⟨sc, gc⟩ := U.newF n3 hX; clear hX
            walk_at "w"
            intro p4 n4; generalize hX : upd _ p4 _ = Hd; obtain ⟨sd, gd⟩ := U.newF n4 hX; clear hX
            walk_at "w"
            intro p5 n5; generalize hX : upd _ p5 _ = He; obtain ⟨se, ge⟩ := U.newF n5 hX; clear hX
            walk_at "w"
            intro p6 n6; generalize hX : upd _ p6 _ = Hf; obtain ⟨sf, gf⟩ := U.newF n6 hX; clear hX
            walk_at "w"
            intro p7 n7; generalize hX : upd _ p7 _ = Hg; obtain ⟨sg, gg⟩ := U.newF n7 hX; clear hX
            walk_at "w"
            intro p8 n8; generalize hX : upd _ p8 _ = Hh; obtain ⟨sh, gh⟩ := U.newF n8 hX; clear hX
            walk_at "w"
            intro p9 n9; generalize hX : upd _ p9 _ = Hi; obtain ⟨si, gi⟩ := U.newF n9 hX; clear hX
            walk_at "w"
            intro p10 n10; generalize hX : upd _ p10 _ = Hj; obtain ⟨sj, gj⟩ := U.newF n10 hX; clear hX
            walk_at "w"
            have ei := sj
            have eh := si.trans ei
            have eg := sh.trans eh
            have ef := sg.trans eg
            have ee := sf.trans ef
            have ed := se.trans ee
            have ec := sd.trans ed
            have eb := sc.trans ec
            have ea := sb.trans eb
            have e0 := sa.trans ea
            have an : ∀ {H0 : Hp} {q : Addr}, H0 q = some (.tup [V.str (Str.ofString "any")]) → Is K H0 anyP (.ref q) := fun h => .mk h (.cons (.str _ (by decide +kernel)) .nil)
            have i2 : Is K Hj (.tup [.str "record", .tup []]) (.ref p2) := .mk (eb _ _ gb) (.cons (.str _ (by decide +kernel)) (.cons (.mkF (ea _ _ ga) ocp1 odp1 .nil) .nil))
            have i4 : Is K Hj (.tup [.str "tag", .str "A", anyP]) (.ref p4) := .mk (ed _ _ gd) (.cons (.str _ (by decide +kernel)) (.cons (.str _ (by decide +kernel)) (.cons (an (ec _ _ gc)) .nil)))
            have i6 : Is K Hj (.tup [.str "a", anyP]) (.ref p6) := .mk (ef _ _ gf) (.cons (.str _ (by decide +kernel)) (.cons (an (ee _ _ ge)) .nil))
            have i8 : Is K Hj (.tup [.str "record", .tup [.tup [.str "a", anyP]]]) (.ref p8) := .mk (eh _ _ gh) (.cons (.str _ (by decide +kernel)) (.cons (.mk (eg _ _ gg) (.cons i6 .nil)) .nil))
            have plj := pl1.same e0
            have zj := pool_ne (PoolAt.same pl1 (((((((((sa.trans sb).trans sc).trans sd).trans se).trans sf).trans sg).trans sh).trans si))) n10
            refine ⟨plj, by decide, by decide, fun j3 Hk hj3 plk sk => ?_⟩
            have Lk := Lst.pool sk plj plk
            have all : IsAll K Hk patM [.ref p2, .ref p4, .ref p8, .ref p9] := IsAll.lst Lk (.cons i2 (.cons i4 (.cons i8 (.cons (an (ei _ _ gi)) .nil))))
            obtain ⟨u, hu⟩ : ∃ u, patM[j3]? = some u := ⟨_, List.getElem?_eq_getElem (show j3 < 4 by omega)⟩
            obtain ⟨uv, huv, hui⟩ := all.nth' hu
            refine Or.inl ⟨_, _, _, _, rfl, rfl, SqL.of (sk _ _ zj gj), U.atN j3 rfl huv, ?_⟩
            walk_at "w"
            exact k _ _ Hk ws (patM_pp _ (List.mem_of_getElem? hu)) hui plk (sk _ _ lp (e0 _ _ hl1)) hwl (fun z hz => hz) (b1.trans ((But2.of e0).trans (.ofBut sk)))
          · walk_at "w"
            cases hx with
            | number hi hu =>
              cases hx1 with
              | tup tp ha =>
                cases ha with
                | cons hh0 ha =>
                  cases hh0
                  walk_at "w"
                  refine Or.inr (Or.inl ⟨_, _, _, _, rfl, rfl, tp.1, U.atN 0 rfl rfl, ?_⟩)
                  walk_at "w"
                  intro qa na; generalize hX : upd _ qa _ = Hy; obtain ⟨sy, gy⟩ := U.newF na hX; clear hX
                  walk_at "w"
                  walk_at "w"
                  intro p1 _ ocp1 odp1 n1; generalize hX : upd _ p1 _ = Ha; obtain ⟨sa, ga⟩ := U.newF n1 hX; clear hX
                  walk_at "w"
                  intro p2 n2; generalize hX : upd _ p2 _ = Hb; obtain ⟨sb, gb⟩ := U.newF n2 hX; clear hX
                  walk_at "w"
                  intro p3 n3; generalize hX : upd _ p3 _ = Hc; obtain ⟨sc, gc⟩ := U.newF n3 hX; clear hX
                  walk_at "w"
                  intro p4 n4; generalize hX : upd _ p4 _ = Hd; obtain ⟨sd, gd⟩ := U.newF n4 hX; clear hX
                  walk_at "w"
                  intro p5 n5; generalize hX : upd _ p5 _ = He; obtain ⟨se, ge⟩ := U.newF n5 hX; clear hX
                  walk_at "w"
                  intro p6 n6; generalize hX : upd _ p6 _ = Hf; obtain ⟨sf, gf⟩ := U.newF n6 hX; clear hX
                  walk_at "w"
                  intro p7 n7; generalize hX : upd _ p7 _ = Hg; obtain ⟨sg, gg⟩ := U.newF n7 hX; clear hX
                  walk_at "w"
                  intro p8 n8; generalize hX : upd _ p8 _ = Hh; obtain ⟨sh, gh⟩ := U.newF n8 hX; clear hX
                  walk_at "w"
                  intro p9 n9; generalize hX : upd _ p9 _ = Hi; obtain ⟨si, gi⟩ := U.newF n9 hX; clear hX
                  walk_at "w"
                  intro p10 n10; generalize hX : upd _ p10 _ = Hj; obtain ⟨sj, gj⟩ := U.newF n10 hX; clear hX
                  walk_at "w"
                  have ei := sj
                  have eh := si.trans ei
                  have eg := sh.trans eh
                  have ef := sg.trans eg
                  have ee := sf.trans ef
                  have ed := se.trans ee
                  have ec := sd.trans ed
                  have eb := sc.trans ec
                  have ea := sb.trans eb
                  have e0 := sa.trans ea
                  have an : ∀ {H0 : Hp} {q : Addr}, H0 q = some (.tup [V.str (Str.ofString "any")]) → Is K H0 anyP (.ref q) := fun h => .mk h (.cons (.str _ (by decide +kernel)) .nil)
                  have i2 : Is K Hj (.tup [.str "record", .tup []]) (.ref p2) := .mk (eb _ _ gb) (.cons (.str _ (by decide +kernel)) (.cons (.mkF (ea _ _ ga) ocp1 odp1 .nil) .nil))
                  have i4 : Is K Hj (.tup [.str "tag", .str "A", anyP]) (.ref p4) := .mk (ed _ _ gd) (.cons (.str _ (by decide +kernel)) (.cons (.str _ (by decide +kernel)) (.cons (an (ec _ _ gc)) .nil)))
                  have i6 : Is K Hj (.tup [.str "a", anyP]) (.ref p6) := .mk (ef _ _ gf) (.cons (.str _ (by decide +kernel)) (.cons (an (ee _ _ ge)) .nil))
                  have i8 : Is K Hj (.tup [.str "record", .tup [.tup [.str "a", anyP]]]) (.ref p8) := .mk (eh _ _ gh) (.cons (.str _ (by decide +kernel)) (.cons (.mk (eg _ _ gg) (.cons i6 .nil)) .nil))
                  have plj := (PoolAt.same pl1 sy).same e0
                  have zj := pool_ne (PoolAt.same (PoolAt.same pl1 sy) (((((((((sa.trans sb).trans sc).trans sd).trans se).trans sf).trans sg).trans sh).trans si))) n10
                  refine ⟨plj, by decide, by decide, fun j3 Hk hj3 plk sk => ?_⟩
                  have Lk := Lst.pool sk plj plk
                  have all : IsAll K Hk patM [.ref p2, .ref p4, .ref p8, .ref p9] := IsAll.lst Lk (.cons i2 (.cons i4 (.cons i8 (.cons (an (ei _ _ gi)) .nil))))
                  obtain ⟨u, hu⟩ : ∃ u, patM[j3]? = some u := ⟨_, List.getElem?_eq_getElem (show j3 < 4 by omega)⟩
                  obtain ⟨uv, huv, hui⟩ := all.nth' hu
                  refine Or.inl ⟨_, _, _, _, rfl, rfl, SqL.of (sk _ _ zj gj), U.atN j3 rfl huv, ?_⟩
                  walk_at "w"
                  exact k _ _ Hk ws (patM_pp _ (List.mem_of_getElem? hu)) hui plk (sk _ _ lp (e0 _ _ (sy _ _ hl1))) hwl (fun z hz => hz) ((b1.trans (.of sy)).trans ((But2.of e0).trans (.ofBut sk)))
            | fn hb =>
              cases hx1 with
              | tup tp ha =>
                cases ha with
                | cons hh0 ha =>
                  cases hh0
                  walk_at "w"
                  refine Or.inr (Or.inl ⟨_, _, _, _, rfl, rfl, tp.1, U.atN 0 rfl rfl, ?_⟩)
                  walk_at "w"
                  intro qa na; generalize hX : upd _ qa _ = Hy; obtain ⟨sy, gy⟩ := U.newF na hX; clear hX
                  walk_at "w"
                  walk_at "w"
                  intro p1 _ ocp1 odp1 n1; generalize hX : upd _ p1 _ = Ha; obtain ⟨sa, ga⟩ := U.newF n1 hX; clear hX
                  walk_at "w"
                  intro p2 n2; generalize hX : upd _ p2 _ = Hb; obtain ⟨sb, gb⟩ := U.newF n2 hX; clear hX
                  walk_at "w"
                  intro p3 n3; generalize hX : upd _ p3 _ = Hc; obtain ⟨sc, gc⟩ := U.newF n3 hX; clear hX
                  walk_at "w"
                  intro p4 n4; generalize hX : upd _ p4 _ = Hd; obtain ⟨sd, gd⟩ := U.newF n4 hX; clear hX
                  walk_at "w"
                  intro p5 n5; generalize hX : upd _ p5 _ = He; obtain ⟨se, ge⟩ := U.newF n5 hX; clear hX
                  walk_at "w"
                  intro p6 n6; generalize hX : upd _ p6 _ = Hf; obtain ⟨sf, gf⟩ := U.newF n6 hX; clear hX
                  walk_at "w"
                  intro p7 n7; generalize hX : upd _ p7 _ = Hg; obtain ⟨sg, gg⟩ := U.newF n7 hX; clear hX
                  walk_at "w"
                  intro p8 n8; generalize hX : upd _ p8 _ = Hh; obtain ⟨sh, gh⟩ := U.newF n8 hX; clear hX
                  walk_at "w"
                  intro p9 n9; generalize hX : upd _ p9 _ = Hi; obtain ⟨si, gi⟩ := U.newF n9 hX; clear hX
                  walk_at "w"
                  intro p10 n10; generalize hX : upd _ p10 _ = Hj; obtain ⟨sj, gj⟩ := U.newF n10 hX; clear hX
                  walk_at "w"
                  have ei := sj
                  have eh := si.trans ei
                  have eg := sh.trans eh
                  have ef := sg.trans eg
                  have ee := sf.trans ef
                  have ed := se.trans ee
                  have ec := sd.trans ed
                  have eb := sc.trans ec
                  have ea := sb.trans eb
                  have e0 := sa.trans ea
                  have an : ∀ {H0 : Hp} {q : Addr}, H0 q = some (.tup [V.str (Str.ofString "any")]) → Is K H0 anyP (.ref q) := fun h => .mk h (.cons (.str _ (by decide +kernel)) .nil)
                  have i2 : Is K Hj (.tup [.str "record", .tup []]) (.ref p2) := .mk (eb _ _ gb) (.cons (.str _ (by decide +kernel)) (.cons (.mkF (ea _ _ ga) ocp1 odp1 .nil) .nil))
                  have i4 : Is K Hj (.tup [.str "tag", .str "A", anyP]) (.ref p4) := .mk (ed _ _ gd) (.cons (.str _ (by decide +kernel)) (.cons (.str _ (by decide +kernel)) (.cons (an (ec _ _ gc)) .nil)))
                  have i6 : Is K Hj (.tup [.str "a", anyP]) (.ref p6) := .mk (ef _ _ gf) (.cons (.str _ (by decide +kernel)) (.cons (an (ee _ _ ge)) .nil))
                  have i8 : Is K Hj (.tup [.str "record", .tup [.tup [.str "a", anyP]]]) (.ref p8) := .mk (eh _ _ gh) (.cons (.str _ (by decide +kernel)) (.cons (.mk (eg _ _ gg) (.cons i6 .nil)) .nil))
                  have plj := (PoolAt.same pl1 sy).same e0
                  have zj := pool_ne (PoolAt.same (PoolAt.same pl1 sy) (((((((((sa.trans sb).trans sc).trans sd).trans se).trans sf).trans sg).trans sh).trans si))) n10
                  refine ⟨plj, by decide, by decide, fun j3 Hk hj3 plk sk => ?_⟩
                  have Lk := Lst.pool sk plj plk
                  have all : IsAll K Hk patM [.ref p2, .ref p4, .ref p8, .ref p9] := IsAll.lst Lk (.cons i2 (.cons i4 (.cons i8 (.cons (an (ei _ _ gi)) .nil))))
                  obtain ⟨u, hu⟩ : ∃ u, patM[j3]? = some u := ⟨_, List.getElem?_eq_getElem (show j3 < 4 by omega)⟩
                  obtain ⟨uv, huv, hui⟩ := all.nth' hu
                  refine Or.inl ⟨_, _, _, _, rfl, rfl, SqL.of (sk _ _ zj gj), U.atN j3 rfl huv, ?_⟩
                  walk_at "w"
                  exact k _ _ Hk ws (patM_pp _ (List.mem_of_getElem? hu)) hui plk (sk _ _ lp (e0 _ _ (sy _ _ hl1))) hwl (fun z hz => hz) ((b1.trans (.of sy)).trans ((But2.of e0).trans (.ofBut sk)))
            | record he =>
              cases hx1 with
              | tup tp ha =>
                cases ha with
                | cons hh0 ha =>
                  cases hh0
                  walk_at "w"
                  refine Or.inr (Or.inl ⟨_, _, _, _, rfl, rfl, tp.1, U.atN 0 rfl rfl, ?_⟩)
                  walk_at "w"
                  intro qa na; generalize hX : upd _ qa _ = Hy; obtain ⟨sy, gy⟩ := U.newF na hX; clear hX
                  walk_at "w"
                  have tpy := tp.keep sy
                  have hay := IsAll.keep sy ha
                  refine Or.inr (Or.inl ⟨_, _, _, _, rfl, rfl, tpy.1, U.atN 0 rfl rfl, ?_⟩)
                  walk_at "w"
                  cases hay with
                  | cons h1 hay2 =>
                    cases h1 with
                    | tup tp1 ha1 =>
                      refine Or.inr (Or.inl ⟨_, _, _, _, rfl, rfl, tpy.1, U.atN 1 rfl rfl, ?_⟩)
                      walk_at "w"
                      refine ⟨⟨_, tp1.1⟩, fun D nD => ?_⟩
                      have Dp := pool_ne (PoolAt.same pl1 sy) nD
                      have Dl : D ≠ l := fun z => by rw [z, (sy _ _ hl1)] at nD; cases nD
                      have nDH : H D = none := (b1.trans (.of sy)).ne Dp Dl nD
                      rename_i d' n' es p0 hq0 vs0 p1 vs1
                      refine lc_tup (xs := vs1) (fun i Hj => ∃ fs us ws', PEnt fs ∧ IsAll K Hj fs us ∧ Hj D = some (.lst us) ∧ us.length ≤ i ∧ PoolAt Hj p ∧ Hj l = some (.lst (ws'.map V.str)) ∧ ws'.length ≤ 3 ∧ (∀ z ∈ ws', z ∈ ws) ∧ But2 p l H Hj ∧ But2 p l Hy Hj)
                        ⟨[], [], ws, .nil, .nil, upd_same, Nat.le_refl _, pool_up (PoolAt.same pl1 sy) Dp, by rw [upd_ne (fun z => Dl z.symm)]; exact (sy _ _ hl1), hwl, fun z hz => hz, (b1.trans (.of sy)).up nDH, (But2.refl _ _ _).up nD⟩ (fun i Hj _ st => ?_) ?_ ?_
                      · obtain ⟨_, _, _, _, _, _, _, plj, hlj, _, _, _, byj⟩ := st
                        exact sqT_lstA (byj.lst (PoolAt.same pl1 sy).some plj.some ⟨_, (sy _ _ hl1)⟩ ⟨_, hlj⟩) tp1.1
                      · rintro i v0 Hj hv0 ⟨fs, us, ws1, hfs, hfu, gD, hul, plj, hlj, hw1, hm1, bj, byj⟩
                        have Lj : Lst Hy Hj := byj.lst (PoolAt.same pl1 sy).some plj.some ⟨_, (sy _ _ hl1)⟩ ⟨_, hlj⟩
                        obtain ⟨y0, hy0, hyv⟩ := (IsAll.lst Lj ha1).nth hv0
                        obtain ⟨lab, e, rfl, hlab, hve⟩ := he.nth hy0
                        cases hyv with
                        | tup tpi hai =>
                          cases hai with
                          | cons hi1 hai2 =>
                            cases hi1
                            cases hai2 with
                            | cons hi2 hai3 =>
                              cases hai3
                              rename_i t0 hll vi
                              refine ⟨t0, _, rfl, tpi.1, rfl, ?_⟩
                              walk_at "w"
                              refine ⟨rfl, ?_⟩
                              walk_at "w"
                              intro j5 H5 hj5 pl5 s5
                              walk_at "w"
                              have L5 := Lst.pool s5 plj pl5
                              have hl5 := s5 _ _ lp hlj
                              have gD5 := s5 _ _ Dp gD
                              have hi5 := Is.lst L5 hi2
                              have hfu5 := IsAll.lst L5 hfu
                              refine U.ifD (fun hc => ?_) (fun hc => ?_)
                              · walk_at "w"
                                refine spPP_mk (d := d') (by omega) rfl pl5 lp hl5 hw1 (fun z hz => hws z (hm1 z hz)) hve hi5 fun y6 u6 H6 ws6 hy6 hyu6 pl6 hl6 hw6 hm6 b6 => ?_
                                have gD6 := b6 _ _ Dp Dl gD5
                                have L6 : Lst H5 H6 := b6.lst pl5.some pl6.some ⟨_, hl5⟩ ⟨_, hl6⟩
                                walk_at "w"
                                intro p7 n7; generalize hX : upd _ p7 _ = H7; obtain ⟨s7, g7⟩ := U.newF n7 hX; clear hX
                                have gD7 := s7 _ _ gD6
                                have L7 : Lst H7 (upd H7 D (.lst (us ++ [V.ref p7]))) := .but (U.SameBut.refl _ _).upd ⟨_, gD7⟩ ⟨_, upd_same⟩
                                have hvl : vs1.length ≤ 3 := by
                                  have h1 := (IsAll.lst Lj ha1).len
                                  have h2 := he.len
                                  rw [← h1, h2, List.length_take]
                                  exact Nat.min_le_right _ _
                                have hivs := (List.getElem?_eq_some_iff.mp hv0).1
                                refine ⟨us, gD7, U.szl (by omega), fs ++ [.tup [.str lab, y6]], us ++ [.ref p7], ws6, hfs.app (.cons lab hy6 .nil), ?_, upd_same, ?_, pool_up (pl6.same s7) Dp, ?_, hw6, fun z hz => hm1 z (hm6 z hz), ?_, ?_⟩
                                · exact IsAll.lst L7 (((IsAll.lst L6 hfu5).keep s7).app (.cons (.mk g7 (.cons (.str _ hll) (.cons (hyu6.keep s7) .nil))) .nil))
                                · rw [List.length_append, List.length_singleton]
                                  omega
                                · rw [upd_ne (fun z => Dl z.symm)]
                                  exact s7 _ _ hl6
                                · exact (((bj.trans (.ofBut s5)).trans b6).trans (.of s7)).up nDH
                                · exact (((byj.trans (.ofBut s5)).trans b6).trans (.of s7)).up nD
                              · exact ⟨fs, us, ws1, hfs, hfu5, gD5, by omega, pl5, hl5, hw1, hm1, bj.trans (.ofBut s5), byj.trans (.ofBut s5)⟩
                      · rintro Hj ⟨fs, us, ws1, hfs, hfu, gD, hul, plj, hlj, hw1, hm1, bj, byj⟩
                        walk_at "w"
                        intro pA nA; generalize hX : upd _ pA _ = Ha; obtain ⟨sa, ga⟩ := U.newF nA hX; clear hX
                        walk_at "w"
                        intro pB nB; generalize hX : upd _ pB _ = Hb; obtain ⟨sb, gb⟩ := U.newF nB hX; clear hX
                        walk_at "w"
                        intro pC nC; generalize hX : upd _ pC _ = Hc; obtain ⟨sc, gc⟩ := U.newF nC hX; clear hX
                        walk_at "w"
                        have plb := (plj.same sa).same sb
                        have zC := pool_ne plb nC
                        refine ⟨plb.same sc, by decide, by decide, fun jd Hd hjd pld sd => ?_⟩
                        have Ld := Lst.pool sd (plb.same sc) pld
                        have sabc : Same Hj Hc := (sa.trans sb).trans sc
                        have lD : Dp = Dp := rfl
                        have gDd := sd _ _ Dp (sabc _ _ gD)
                        have gCd := sd _ _ zC gc
                        have hld := sd _ _ lp (sabc _ _ hlj)
                        have idd : Is K Hd (.tup [.str "d", anyP]) (.ref pB) := Is.lst Ld (Is.keep sc (.mk gb (.cons (.str _ (by decide +kernel)) (.cons (Is.keep sb (.mk ga (.cons (.str _ (by decide +kernel)) .nil))) .nil))))
                        have hfd := IsAll.lst Ld (IsAll.keep sabc hfu)
                        have bd : But2 p l H Hd := (bj.trans (.of sabc)).trans (.ofBut sd)
                        walk_at "w"
                        obtain ⟨n, hn, en⟩ : ∃ n : Nat, n ≤ 1 ∧ (if decide (V.int (jd : Int) = V.int 0) = true then (1 : Int) else 0) = (n : Int) := by
                          by_cases h : V.int (jd : Int) = V.int 0
                          · exact ⟨1, Nat.le_refl _, by rw [if_pos (decide_eq_true h)] <;> rfl⟩
                          · exact ⟨0, Nat.zero_le _, by rw [if_neg (fun q => h (of_decide_eq_true q))] <;> rfl⟩
                        rw [en]
                        have ext : ∃ gs gus, PEnt gs ∧ IsAll K Hd gs gus ∧ gus.length ≤ 1 ∧ (List.replicate (n : Int).toNat [V.ref pB]).flatten = gus := by
                          rcases Nat.le_one_iff_eq_zero_or_eq_one.mp hn with rfl | rfl
                          · exact ⟨[], [], .nil, .nil, Nat.zero_le _, rfl⟩
                          · exact ⟨[_], [_], .cons _ .any .nil, .cons idd .nil, Nat.le_refl _, rfl⟩
                        obtain ⟨gs, gus, hgs, hgu, hgl, eg⟩ := ext
                        refine ⟨pC, _, _, rfl, rfl, gCd, by omega, by omega, by show 1 * _ ≤ sizeLine; rw [Nat.one_mul, Int.toNat_natCast]; exact Nat.le_trans hn (by decide), fun pE nE => ?_⟩
                        rw [eg]
                        generalize hX : upd _ pE _ = He
                        obtain ⟨se, ge⟩ := U.newF nE hX
                        clear hX
                        have hvl : vs1.length ≤ 3 := by
                          have h1 := ha1.len
                          have h2 := he.len
                          rw [← h1, h2, List.length_take]
                          exact Nat.min_le_right _ _
                        refine Or.inr (Or.inr ⟨D, pE, _, _, rfl, rfl, se _ _ gDd, ge, U.sz (by omega), fun pF nF => ?_⟩)
                        generalize hX : upd _ pF _ = Hf
                        obtain ⟨sf, gf⟩ := U.newF nF hX
                        clear hX
                        walk_at "w"
                        refine ⟨pF, _, rfl, SqL.of gf, ?_⟩
                        intro pG _ ocpG odpG nG; generalize hX : upd _ pG _ = Hg; obtain ⟨sg, gg⟩ := U.newF nG hX; clear hX
                        walk_at "w"
                        intro pH nH; generalize hX : upd _ pH _ = Hh; obtain ⟨sh, gh⟩ := U.newF nH hX; clear hX
                        have seh : Same Hd Hh := ((se.trans sf).trans sg).trans sh
                        exact k _ _ Hh ws1 (.record (hfs.app hgs) (by rw [List.length_append, hfd.len, hgu.len]; omega)) (.mk gh (.cons (.str _ (by decide +kernel)) (.cons (Is.keep sh (.mkF gg ocpG odpG (IsAll.keep ((se.trans sf).trans sg) (hfd.app hgu)))) .nil))) (pld.same seh) (seh _ _ hld) hw1 hm1 (bd.trans (.of seh))
            | tag ht hc =>
              cases hx1 with
              | tup tp ha =>
                cases ha with
                | cons hh0 ha =>
                  cases hh0
                  walk_at "w"
                  refine Or.inr (Or.inl ⟨_, _, _, _, rfl, rfl, tp.1, U.atN 0 rfl rfl, ?_⟩)
                  walk_at "w"
                  intro qa na; generalize hX : upd _ qa _ = Hy; obtain ⟨sy, gy⟩ := U.newF na hX; clear hX
                  walk_at "w"
                  have tpy := tp.keep sy
                  have hay := IsAll.keep sy ha
                  refine Or.inr (Or.inl ⟨_, _, _, _, rfl, rfl, tpy.1, U.atN 0 rfl rfl, ?_⟩)
                  walk_at "w"
                  refine ⟨(PoolAt.same pl1 sy), by decide, by decide, fun j4 Hz hj4 plz sz => ?_⟩
                  have Lz := Lst.pool sz (PoolAt.same pl1 sy) plz
                  have hlz := sz _ _ lp (sy _ _ hl1)
                  have bz : But2 p l H Hz := (b1.trans (.of sy)).trans (.ofBut sz)
                  have tpz : SqT K Hz _ _ := sqT_lstA Lz tpy.1
                  have haz := IsAll.lst Lz hay
                  cases hay with
                  | cons h1 hay2 =>
                    cases h1
                    cases haz with
                    | cons h1z haz2 =>
                      cases haz2 with
                      | cons h2z haz3 =>
                        cases haz3
                        walk_at "w"
                        refine ifE_W (fun y H3 => H3 = Hz ∧ ∃ z : Str, y = .str z ∧ z.length ≤ 100) (fun _ K' kk => ?_) (fun _ K' kk => ?_) (fun y H3 hw => ?_)
                        · walk_at "w"
                          refine Or.inr (Or.inl ⟨_, _, _, _, rfl, rfl, tpz, U.atN 1 rfl rfl, ?_⟩)
                          exact kk _ _ ⟨rfl, _, rfl, tags_len _ ht⟩
                        · walk_at "w"
                          exact kk _ _ ⟨rfl, _, rfl, by decide +kernel⟩
                        · obtain ⟨rfl, z, rfl, hzl⟩ := hw
                          walk_at "w"
                          refine Or.inr (Or.inl ⟨_, _, _, _, rfl, rfl, tpz, U.atN 2 rfl rfl, ?_⟩)
                          walk_at "w"
                          refine spPP_mk (by omega) rfl plz lp hlz hwl hws hc h2z fun y u H4 ws4 hy hyu pl4 hl4 hwl4 hm4 b4 => ?_
                          walk_at "w"
                          intro p2 n2; generalize hX : upd _ p2 _ = H5; obtain ⟨s5, g5⟩ := U.newF n2 hX; clear hX
                          exact k _ _ H5 ws4 (.tag z hy) (.mk g5 (.cons (.str _ (by decide +kernel)) (.cons (.str _ hzl) (.cons (hyu.keep s5) .nil)))) (pl4.same s5) (s5 _ _ hl4) hwl4 hm4 ((bz.trans b4).trans (.of s5))
end
section
variable {P : Program} {w : World} {K : PySem.W.Frag} {mg : Str → Option Value} {base : Heap} {A : Ad}
/-- the item of a label among entries -/
def look : List PV → Str → Option PV
  | .tup [.str m, e] :: r, l => if m = l then some e else look r l
  | _ :: r, l => look r l
  | [], _ => none
/-- does a pattern take a value tree -/
def tk : Nat → PV → PV → Bool
  | 0, _, _ => false
  | n + 1, .tup [.str _, .str t, p], .tup [.str h, .str s, v] => decide (h = "tag") && (decide (s = t) && tk n p v)
  | _ + 1, .tup [.str _, .str _, _], _ => false
  | n + 1, .tup [.str _, .tup fs], .tup [.str _, .tup es] => fs.all fun f => match f with
    | .tup [.str l, p] => match look es l with
      | some e => tk n p e
      | none => false
    | _ => false
  | _ + 1, .tup [.str _, .tup _], _ => false
  | _ + 1, _, _ => true
/-- entries, and what is kept of them -/
inductive KE (K : PySem.W.Frag) (H : Hp) : List PV → List (Key × V) → Prop
  | nil : KE K H [] []
  | cons {l : Str} {e : PV} {u : V} {es : List PV} {kvs : List (Key × V)} (h : Is K H e u) (t : KE K H es kvs) : KE K H (.tup [.str l, e] :: es) ((.inr l, u) :: kvs)
theorem KE.keep {H H1 : Hp} (s : Same H H1) : ∀ {es : List PV} {kvs : List (Key × V)}, KE K H es kvs → KE K H1 es kvs
  | _, _, .nil => .nil
  | _, _, .cons h t => .cons (h.keep s) (t.keep s)
theorem KE.look {H : Hp} {l : Str} : ∀ {es : List PV} {kvs : List (Key × V)}, KE K H es kvs → (valV kvs (.inr l) = none ∧ Toy.look es l = none) ∨ ∃ e u, valV kvs (.inr l) = some u ∧ Toy.look es l = some e ∧ Is K H e u
  | _, _, .nil => .inl ⟨rfl, rfl⟩
  | _, _, .cons (l := m) (e := e) (u := u) (es := es) (kvs := kvs) h t => by
    by_cases q : m = l
    · refine .inr ⟨e, u, valV_pos (by rw [q]), ?_, h⟩
      show (if m = l then some e else Toy.look es l) = some e
      rw [if_pos q]
    · have e1 : Toy.look (.tup [.str m, e] :: es) l = Toy.look es l := by
        show (if m = l then some e else Toy.look es l) = _
        rw [if_neg q]
      have e2 : valV (((.inr m : Key), u) :: kvs) (.inr l) = valV kvs (.inr l) := valV_neg (fun z => q (Sum.inr.inj z))
      rw [e1, e2]
      exact t.look
theorem VE.look {d : Nat} {l : Str} {x : PV} : ∀ {es : List PV} {ls : List Str}, VE d es ls → Toy.look es l = some x → VT d x
  | _, _, .nil, q => by cases q
  | _, _, .cons (l := m) (e := e) (es := es) h t, q => by
    have q : (if m = l then some e else Toy.look es l) = some x := q
    by_cases w : m = l
    · rw [if_pos w] at q
      cases q
      exact h
    · rw [if_neg w] at q
      exact t.look q
theorem VE.pairs {d : Nat} {H : Hp} : ∀ {es : List PV} {ls : List Str} {vs : List V}, VE d es ls → IsAll K H es vs → ∃ (ps : List Addr) (kvs : List (Key × V)), vs = ps.map V.ref ∧ Paired (fun p kv => SqT K H p [kV kv.1, kv.2]) ps kvs ∧ KE K H es kvs ∧ kvs.map (·.1) = ls.map (Sum.inr : Str → Key)
  | _, _, _, .nil, .nil => ⟨[], [], rfl, .nil, .nil, rfl⟩
  | _, _, _, .cons (l := l) h t, .cons hv tv => by
    obtain ⟨ps, kvs, e1, e2, e3, e4⟩ := VE.pairs t tv
    cases hv with
    | @tup p _ _ tp ha =>
      cases ha with
      | cons h0 ha =>
        cases h0
        cases ha with
        | @cons _ u _ _ h1 ha =>
          cases ha
          refine ⟨p :: ps, ((.inr l : Key), u) :: kvs, by rw [e1] <;> rfl, .cons tp.1 e2, .cons h1 e3, ?_⟩
          rw [List.map_cons, List.map_cons, e4]
theorem mergeK_nd : ∀ {kvs acc : List (Key × V)}, ((acc ++ kvs).map (·.1)).Nodup → mergeK acc kvs = acc ++ kvs
  | [], acc, _ => by rw [List.append_nil] <;> rfl
  | q :: r, acc, hn => by
    have e : putK acc q.1 q.2 = acc ++ [q] := by
      unfold putK
      have hq : ¬ (acc.any fun r => decide (r.1 = q.1)) = true := fun z => by
        obtain ⟨s, hs, es⟩ := List.any_eq_true.mp z
        rw [List.map_append, List.map_cons] at hn
        exact (List.nodup_append.mp hn).2.2 _ (List.mem_map.mpr ⟨s, hs, rfl⟩) _ (List.mem_cons_self ..) (of_decide_eq_true es)
      rw [if_neg hq]
    show mergeK (putK acc q.1 q.2) r = _
    rw [e]
    have hn' : ((acc ++ [q] ++ r).map (·.1)).Nodup := by rw [List.append_assoc]; exact hn
    rw [mergeK_nd hn', List.append_assoc] <;> rfl
theorem labs_nd {n : Nat} : ((labsT.take n).map (Sum.inr : Str → Key)).Nodup := by
  have h : (labsT.map (Sum.inr : Str → Key)).Nodup := by decide +kernel
  exact (List.Sublist.map _ (List.take_sublist n labsT)).nodup h
def tkE (n : Nat) (es : List PV) : PV → Bool
  | .tup [.str l, p] => match look es l with
    | some e => tk n p e
    | none => false
  | _ => false
theorem tk_rec {n : Nat} {h g : Str} {fs es : List PV} : tk (n + 1) (.tup [.str h, .tup fs]) (.tup [.str g, .tup es]) = fs.all (tkE n es) := rfl
theorem PEnt.nth : ∀ {fs : List PV}, PEnt fs → ∀ {i : Nat} {x : PV}, fs[i]? = some x → ∃ l p, x = .tup [.str l, p] ∧ PP p
  | _, .cons l (p := p) hp t, 0, x, q => by
    simp at q
    exact ⟨l, p, q.symm, hp⟩
  | _, .cons l hp t, i + 1, x, q => by
    simp at q
    exact t.nth q
theorem VT.ent {d : Nat} {l : Str} {e : PV} (h : VT d e) : isEnt (.tup [.str l, e]) = true := by
  cases h <;> rfl
theorem VE.ents {d : Nat} : ∀ {es : List PV} {ls : List Str}, VE d es ls → entsB es = true
  | _, _, .nil => rfl
  | _, _, .cons h t => by
    unfold entsB
    rw [List.all_cons, h.ent, Bool.true_and]
    exact t.ents
/-- the first two of a tuple of three, and of two -/
theorem sl2of3 {a b c : V} {p : Addr} {H : Hp} {Q : VK} (h : SqT K H p [a, b, c]) (k : ∀ q H1, Same H H1 → H1 q = some (.tup [a, b]) → Q (.ref q) H1) : rSlA K (.ref p) none (some 2) H Q := by
  refine ⟨p, _, rfl, h, fun e => absurd (show (2 : Nat) = 3 from e.2) (by decide), fun _ q nq => ?_⟩
  generalize hX : upd H q _ = H1
  obtain ⟨s1, g1⟩ := U.newF nq hX
  exact k q H1 s1 g1
theorem sl2of2 {a b : V} {p : Addr} {H : Hp} {Q : VK} (h : SqT K H p [a, b]) (k : Q (.ref p) H) : rSlA K (.ref p) none (some 2) H Q :=
  ⟨p, _, rfl, h, fun _ => k, fun e => absurd ⟨rfl, rfl⟩ e⟩
def spTk (K : PySem.W.Frag) : Nat → Sp
  | 0 => fun _ _ _ _ => False
  | m + 1 => fun vs H Q _ => ∃ (p x : PV) (u v : V) (d : Nat), vs = [u, v] ∧ PP p ∧ VT d x ∧ Is K H p u ∧ Is K H x v ∧ d ≤ m ∧ ∀ H', Same H H' → Q (.bl (tk (d + 1) p x)) H'
theorem spTk_mk {m d : Nat} {p x : PV} {u v : V} {H : Hp} {Q : VK} {E : XK} {vs : List V} (hm : d + 1 ≤ m) (e : vs = [u, v]) (hp : PP p) (hx : VT d x) (ip : Is K H p u) (ix : Is K H x v) (k : ∀ H', Same H H' → Q (.bl (tk (d + 1) p x)) H') : spTk K m vs H Q E := by
  cases m with
  | zero => exact absurd hm (Nat.not_succ_le_zero _)
  | succ m => exact ⟨p, x, u, v, d, e, hp, hx, ip, ix, by omega, k⟩
theorem ok_takesR (T : Top w K mg A) : ∀ m : Nat, FnOk P w K mg base CX0 (2 + m) A.a_law_takes_of A.fd_law_takes_of ["pattern", "value"] (spTk K m)
  | 0 => T.F_law_takes_of.ok sc_law_takes_of (fun vs H Q E h => False.elim h) (fun cdv A outer s H vs Q E hr h => False.elim h)
  | m + 1 => by
    have ih := ok_takesR T m
    refine T.F_law_takes_of.ok sc_law_takes_of (fun vs H Q E h => ?_) (fun cdv A' outer s H vs Q E hr h => ?_)
    · obtain ⟨p, x, u, v, d, rfl, _⟩ := h
      rfl
    · obtain ⟨p, x, u, v, d, rfl, hp, hx, ip, ix, hd, k⟩ := h
      have hr : Room (2 + m) _ := hr
      refine ⟨_, (pss_cons (ps_if (pt_cmpR (U.uIn (K := K) rfl) (pe_ix (U.uIx (K := K) rfl) (pv 0) pe_int (fun _ _ => rfl)) (pe_lst (pa_cons pe_str (pa_cons pe_str pa_nil))) rfl) (pss_one (ps_ret pe_bl)) pss_nil)
    (pss_cons (ps_if (pt_cmpR (U.uEq (K := K) rfl hr.units) (pe_ix (U.uIx (K := K) rfl) (pv 0) pe_int (fun _ _ => rfl)) pe_str (nomark _)) (pss_one (ps_ret (pe_and (pe_cmpR (op_eqTg (Nat.lt_of_le_of_lt (Nat.add_le_add_left (m := 64) (n := 1) (by decide) _) hr.units)) (pe_slice (slA (K := K) rfl) (pv 1) po_none (po_some pe_int)) (pe_slice (slA (K := K) rfl) (pv 0) po_none (po_some pe_int)) (nomark _)) (pe_one (pe_call ih (hr.mono (by omega)) rfl T.m_law_takes_of T.F_law_takes_of.kp T.b_law_takes_of .nil pass0 (pa_cons (pe_ix (U.uIx (K := K) rfl) (pv 0) pe_int (fun _ _ => rfl)) (pa_cons (pe_ix (U.uIx (K := K) rfl) (pv 1) pe_int (fun _ _ => rfl)) pa_nil))))))) pss_nil)
    (pss_cons (ps_if (pt_cmpR (U.uNe (K := K) rfl hr.units) (pe_ix (U.uIx (K := K) rfl) (pv 1) pe_int (fun _ _ => rfl)) pe_str (nomark _)) (pss_one (ps_ret pe_bl)) pss_nil)
    (pss_cons (ps_set (i := 2) sc_law_takes_of.nd rfl (Or.inl rfl) (pe_callTy ((cr_dictPT rfl).or call_dictD) (by rfl) T.n_dict (by decide +kernel) (pa_cons (pe_ix (U.uIx (K := K) rfl) (pv 1) pe_int (fun _ _ => rfl)) pa_nil)))
    (pss_cons (ps_for PassesOwn.never rfl (pi_tup (pe_ix (U.uIx (K := K) rfl) (pv 0) pe_int (fun _ _ => rfl))) (pg_tup rfl (pgs_cons (pg_name (i := 3) sc_law_takes_of.nd rfl (Or.inl rfl)) (pgs_cons (pg_name (i := 4) sc_law_takes_of.nd rfl (Or.inl rfl)) pgs_nil))) (pss_one (ps_if (PW.pt (pw_or (pt_cmp (pc_dnotin (Nat.lt_of_le_of_lt (Nat.add_le_add_left (m := 64) (n := 1) (by decide) _) hr.units) (pv 3) (pv 2)) rfl) (pw_or1 (pt_not (pt_val (pe_call ih (hr.mono (by omega)) rfl T.m_law_takes_of T.F_law_takes_of.kp T.b_law_takes_of .nil pass0 (pa_cons (pv 4) (pa_cons (pe_dget (Nat.lt_of_le_of_lt (Nat.add_le_add_left (m := 64) (n := 1) (by decide) _) hr.units) (pv 2) (pv 3) (fun _ _ => rfl)) pa_nil)))))))) (pss_one (ps_ret pe_bl)) pss_nil)))
    (pss_one (ps_ret pe_bl))))))), ?_⟩
      walk_at "w"
      --BODY
      cases hp with
      | any =>
        cases ip with
        | tup tp ha =>
          cases ha with
          | cons h0 ha =>
            cases h0
            refine Or.inr (Or.inl ⟨_, _, _, _, rfl, rfl, tp.1, U.atN 0 rfl rfl, ?_⟩)
            walk_at "w"
            intro qa na; generalize hX : upd _ qa _ = Hy; obtain ⟨sy, gy⟩ := U.newF na hX; clear hX
            walk_at "w"
            exact k Hy sy
      | bind z =>
        cases ip with
        | tup tp ha =>
          cases ha with
          | cons h0 ha =>
            cases h0
            refine Or.inr (Or.inl ⟨_, _, _, _, rfl, rfl, tp.1, U.atN 0 rfl rfl, ?_⟩)
            walk_at "w"
            intro qa na; generalize hX : upd _ qa _ = Hy; obtain ⟨sy, gy⟩ := U.newF na hX; clear hX
            walk_at "w"
            exact k Hy sy
      | @tag t pc hc =>
        cases ip with
        | tup tp ha =>
          cases ha with
          | cons h0 ha =>
            cases h0
            refine Or.inr (Or.inl ⟨_, _, _, _, rfl, rfl, tp.1, U.atN 0 rfl rfl, ?_⟩)
            walk_at "w"
            intro qa na; generalize hX : upd _ qa _ = Hy; obtain ⟨sy, gy⟩ := U.newF na hX; clear hX
            have tpy := tp.keep sy
            have hay := IsAll.keep sy ha
            have ixy := ix.keep sy
            walk_at "w"
            refine Or.inr (Or.inl ⟨_, _, _, _, rfl, rfl, tpy.1, U.atN 0 rfl rfl, ?_⟩)
            walk_at "w"
            have htg : ∀ (h : Str) (u2 v2 : PV), tk (d + 1) (.tup [.str "tag", .str t, u2]) (.tup [.str h, v2]) = false := fun h u2 v2 => by cases v2 <;> rfl
            cases hay with
            | cons i1 hay2 =>
              cases i1
              cases hay2 with
              | cons i2 hay3 =>
                cases hay3
                cases hx with
                | number hi hu =>
                  cases ixy with
                  | tup tx hax =>
                    cases hax with
                    | cons g0 hax =>
                      cases g0
                      cases hax with
                      | cons g1 hax =>
                        cases g1
                        cases hax with
                        | cons g2 hax =>
                          cases hax
                          refine sl2of3 tx.1 fun q1 H1 s1 g1 => ?_
                          walk_at "w"
                          refine sl2of3 (tpy.keep s1).1 fun q2 H2 s2 g2 => ?_
                          refine ⟨q1, q2, _, _, _, _, rfl, rfl, SqT.of (s2 _ _ g1), SqT.of g2, ?_⟩
                          refine Or.inr ⟨.inl ⟨_, rfl⟩, ?_⟩
                          walk_at "w"
                          exact k H2 ((sy.trans s1).trans s2)
                | fn hb =>
                  cases ixy with
                  | tup tx hax =>
                    cases hax with
                    | cons g0 hax =>
                      cases g0
                      cases hax with
                      | cons g1 hax =>
                        cases g1
                        cases hax with
                        | cons g2 hax =>
                          cases hax
                          refine sl2of3 tx.1 fun q1 H1 s1 g1 => ?_
                          walk_at "w"
                          refine sl2of3 (tpy.keep s1).1 fun q2 H2 s2 g2 => ?_
                          refine ⟨q1, q2, _, _, _, _, rfl, rfl, SqT.of (s2 _ _ g1), SqT.of g2, ?_⟩
                          refine Or.inl ⟨_, rfl, ?_⟩
                          have e0 : decide (Str.ofString "fn" = Str.ofString "tag") = false := by decide +kernel
                          rw [e0, Bool.false_and]
                          walk_at "w"
                          have k2 := k H2 ((sy.trans s1).trans s2)
                          rw [show tk (d + 1) (.tup [.str "tag", .str t, _]) (.tup [.str "fn", .str "x", _]) = (decide (Str.ofString "fn" = Str.ofString "tag") && _) from rfl, e0] at k2
                          exact k2
                | record he =>
                  cases ixy with
                  | tup tx hax =>
                    cases hax with
                    | cons g0 hax =>
                      cases g0
                      cases hax with
                      | cons g1 hax =>
                        cases g1 with
                        | tup t1 ha1 =>
                          cases hax
                          refine sl2of2 tx.1 ?_
                          walk_at "w"
                          refine sl2of3 tpy.1 fun q2 H2 s2 g2 => ?_
                          refine ⟨_, q2, _, _, _, _, rfl, rfl, (tx.keep s2).1, SqT.of g2, Or.inr ⟨.inr ⟨_, _, rfl, (t1.keep s2).1⟩, ?_⟩⟩
                          walk_at "w"
                          exact k H2 (sy.trans s2)
                | tag ht2 hc2 =>
                  rename_i d' t2 c2
                  cases ixy with
                  | tup tx hax =>
                    cases hax with
                    | cons g0 hax =>
                      cases g0
                      cases hax with
                      | cons g1 hax =>
                        cases g1
                        cases hax with
                        | cons g2x hax =>
                          cases hax
                          refine sl2of3 tx.1 fun q1 H1 s1 g1 => ?_
                          walk_at "w"
                          refine sl2of3 (tpy.keep s1).1 fun q2 H2 s2 g2 => ?_
                          refine ⟨q1, q2, _, _, _, _, rfl, rfl, SqT.of (s2 _ _ g1), SqT.of g2, ?_⟩
                          refine Or.inl ⟨_, rfl, ?_⟩
                          have e0 : decide (Str.ofString "tag" = Str.ofString "tag") = true := by decide +kernel
                          have ek : tk (d' + 1 + 1) (.tup [.str "tag", .str t, pc]) (.tup [.str "tag", .str t2, c2]) = (decide (Str.ofString "tag" = Str.ofString "tag") && (decide (t2 = t) && tk (d' + 1) pc c2)) := rfl
                          rw [e0, Bool.true_and] at ek
                          rw [e0, Bool.true_and]
                          have s12 := s1.trans s2
                          cases ht : decide (t2 = t) with
                          | false =>
                            walk_at "w"
                            have k2 := k H2 (sy.trans s12)
                            rw [ek, ht] at k2
                            exact k2
                          | true =>
                            walk_at "w"
                            refine Or.inr (Or.inl ⟨_, _, _, _, rfl, rfl, (tpy.keep s12).1, U.atN 2 rfl rfl, ?_⟩)
                            walk_at "w"
                            refine Or.inr (Or.inl ⟨_, _, _, _, rfl, rfl, (tx.keep s12).1, U.atN 2 rfl rfl, ?_⟩)
                            walk_at "w"
                            refine spTk_mk (d := d') (by omega) rfl hc hc2 (i2.keep s12) (g2x.keep s12) fun H3 s3 => ?_
                            have k2 := k H3 ((sy.trans s12).trans s3)
                            rw [ek, ht, Bool.true_and] at k2
                            exact k2
      | @record fs he hle =>
        cases ip with
        | tup tp ha =>
          cases ha with
          | cons h0 ha =>
            cases h0
            refine Or.inr (Or.inl ⟨_, _, _, _, rfl, rfl, tp.1, U.atN 0 rfl rfl, ?_⟩)
            walk_at "w"
            intro qa na; generalize hX : upd _ qa _ = Hy; obtain ⟨sy, gy⟩ := U.newF na hX; clear hX
            have tpy := tp.keep sy
            have hay := IsAll.keep sy ha
            have ixy := ix.keep sy
            walk_at "w"
            refine Or.inr (Or.inl ⟨_, _, _, _, rfl, rfl, tpy.1, U.atN 0 rfl rfl, ?_⟩)
            walk_at "w"
            cases hay with
            | cons i2 hay3 =>
                cases hay3
                cases hx with
                | number hi hu =>
                  cases ixy with
                  | tup tx hax =>
                    cases hax with
                    | cons g0 hax =>
                      cases g0
                      cases i2
                      refine Or.inr (Or.inl ⟨_, _, _, _, rfl, rfl, tx.1, U.atN 0 rfl rfl, ?_⟩)
                      walk_at "w"
                      exact k Hy sy
                | fn hb =>
                  cases ixy with
                  | tup tx hax =>
                    cases hax with
                    | cons g0 hax =>
                      cases g0
                      cases i2
                      refine Or.inr (Or.inl ⟨_, _, _, _, rfl, rfl, tx.1, U.atN 0 rfl rfl, ?_⟩)
                      walk_at "w"
                      exact k Hy sy
                | tag ht2 hc2 =>
                  cases ixy with
                  | tup tx hax =>
                    cases hax with
                    | cons g0 hax =>
                      cases g0
                      cases i2
                      refine Or.inr (Or.inl ⟨_, _, _, _, rfl, rfl, tx.1, U.atN 0 rfl rfl, ?_⟩)
                      walk_at "w"
                      exact k Hy sy
                | record hes =>
                  rename_i d' n' es
                  cases ixy with
                  | tup tx hax =>
                    cases hax with
                    | cons g0 hax =>
                      cases g0
                      cases hax with
                      | cons g1 hax =>
                        cases g1 with
                        | @tup p1 _ vs1 t1 ha1 =>
                          cases hax
                          refine Or.inr (Or.inl ⟨_, _, _, _, rfl, rfl, tx.1, U.atN 0 rfl rfl, ?_⟩)
                          walk_at "w"
                          refine Or.inr (Or.inl ⟨_, _, _, _, rfl, rfl, tx.1, U.atN 1 rfl rfl, ?_⟩)
                          walk_at "w"
                          obtain ⟨ps, kvs, eps, hps, hke, hkl⟩ := VE.pairs hes ha1
                          have tf : TupF Hy p1 (ps.map V.ref) := by
                            have := t1.2.2 hes.ents
                            rw [eps] at this
                            exact this
                          refine Or.inl ⟨_, ps, kvs, rfl, tf, hps, fun D nD => ?_⟩
                          have em : mergeK [] kvs = kvs := mergeK_nd (acc := []) (by rw [List.nil_append, hkl]; exact labs_nd)
                          rw [em]
                          generalize hX : upd _ D _ = H1
                          obtain ⟨s1, g1⟩ := U.newF nD hX
                          clear hX
                          walk_at "w"
                          refine Or.inr (Or.inl ⟨_, _, _, _, rfl, rfl, (tpy.keep s1).1, U.atN 1 rfl rfl, ?_⟩)
                          walk_at "w"
                          cases i2 with
                          | @tup p2 _ vs2 t2 ha2 =>
                            walk_at "w"
                            refine ⟨⟨_, (t2.keep s1).1⟩, ?_⟩
                            refine for_tup (K := K) (a := p2) (xs := vs2) (fun i σ Hj => ∃ (o3 o4 : Option V) (a b : V), σ = [some a, some b, some (.ref D), o3, o4] ∧ Same H1 Hj ∧ fs.all (tkE (d' + 1) es) = (fs.drop i).all (tkE (d' + 1) es))
                              ⟨_, _, _, _, rfl, Same.refl _, rfl⟩ (fun i σ Hj _ st => ?_) ?_ ?_
                            · obtain ⟨_, _, _, _, _, sj, _⟩ := st
                              exact (t2.keep (s1.trans sj)).1
                            · rintro i v σ Hj hv ⟨o3, o4, a, b, rfl, sj, hm⟩
                              obtain ⟨f, hf, isf⟩ := ha2.nth hv
                              have isf := isf.keep (s1.trans sj)
                              obtain ⟨hi, ef⟩ := List.getElem?_eq_some_iff.mp hf
                              rw [List.drop_eq_getElem_cons hi, ef, List.all_cons] at hm
                              obtain ⟨l, pc, rfl, hpc⟩ := he.nth hf
                              cases isf with
                              | @tup pf _ vsf tpf haf =>
                                cases haf with
                                | cons if0 haf =>
                                  cases if0
                                  cases haf with
                                  | @cons _ uf _ _ if1 haf =>
                                    cases haf
                                    refine ⟨pf, _, rfl, tpf.1, rfl, ?_⟩
                                    walk_at "w"
                                    refine ⟨D, _, rfl, .inl ⟨kvs, .inr l, Rd.of (sj _ _ g1), rfl, rfl⟩, ?_⟩
                                    have k3 : fs.all (tkE (d' + 1) es) = false → ∀ H', Same Hj H' → Q (.bl false) H' := fun e H' s' => by
                                      have k2 := k H' (sy.trans (s1.trans (sj.trans s')))
                                      rw [tk_rec, e] at k2
                                      exact k2
                                    have kej := (hke.keep (s1.trans sj)).look (l := l)
                                    rcases kej with ⟨e1, e2⟩ | ⟨e, u, e1, e2, ie⟩
                                    · rw [e1]
                                      walk_at "w"
                                      refine k3 ?_ Hj (Same.refl _)
                                      rw [hm]
                                      show ((match look es l with | some e => tk (d' + 1) pc e | none => false) && _) = false
                                      rw [e2] <;> rfl
                                    · rw [e1]
                                      walk_at "w"
                                      refine ⟨D, u, rfl, .inl ⟨kvs, .inr l, Rd.of (sj _ _ g1), rfl, e1.symm⟩, ?_⟩
                                      walk_at "w"
                                      refine spTk_mk (d := d') (by omega) rfl hpc (hes.look e2) if1 ie fun H3 s3 => ?_
                                      refine ⟨_, rfl, ?_⟩
                                      have hx : tkE (d' + 1) es (.tup [.str l, pc]) = tk (d' + 1) pc e := by
                                        show (match look es l with | some e => tk (d' + 1) pc e | none => false) = _
                                        rw [e2]
                                      cases hk : tk (d' + 1) pc e with
                                      | false =>
                                        walk_at "w"
                                        refine k3 ?_ H3 s3
                                        rw [hm, hx, hk, Bool.false_and]
                                      | true =>
                                        walk_at "w"
                                        refine ⟨_, _, _, _, rfl, sj.trans s3, ?_⟩
                                        rw [hm, hx, hk, Bool.true_and]
                            · rintro σ Hj ⟨o3, o4, a, b, rfl, sj, hm⟩
                              walk_at "w"
                              have k2 := k Hj (sy.trans (s1.trans sj))
                              rw [tk_rec, hm, List.drop_eq_nil_of_le (by rw [ha2.len]; exact Nat.le_refl _)] at k2
                              exact k2
end
mutual
def PV.size : PV → Nat
  | .tup xs => PV.sizes xs + 1
  | _ => 1
def PV.sizes : List PV → Nat
  | [] => 0
  | x :: r => PV.size x + PV.sizes r
end
section
variable {P : Program} {w : World} {K : PySem.W.Frag} {mg : Str → Option Value} {base : Heap} {A : Ad}
/-- what waits to be taken -/
abbrev Job := PV × PV × Nat
def wt : List Job → Nat
  | [] => 0
  | t :: r => 5 ^ (t.2.2 + 1) + wt r
def jobB (t : Job) : Bool := tk (t.2.2 + 1) t.1 t.2.1
inductive Jobs (K : PySem.W.Frag) (H : Hp) : List Job → List V → Prop
  | nil : Jobs K H [] []
  | cons {p x : PV} {d : Nat} {u v : V} {q : Addr} {ts : List Job} {vs : List V} (hp : PP p) (hx : VT d x) (ip : Is K H p u) (ix : Is K H x v) (hq : SqT K H q [u, v]) (t : Jobs K H ts vs) : Jobs K H ((p, x, d) :: ts) (.ref q :: vs)
theorem KE.lst {H H1 : Hp} (s : Lst H H1) : ∀ {es : List PV} {kvs : List (Key × V)}, KE K H es kvs → KE K H1 es kvs
  | _, _, .nil => .nil
  | _, _, .cons h t => .cons (h.lst s) (t.lst s)
theorem Jobs.lst {H H1 : Hp} (s : Lst H H1) : ∀ {ts : List Job} {vs : List V}, Jobs K H ts vs → Jobs K H1 ts vs
  | _, _, .nil => .nil
  | _, _, .cons hp hx ip ix hq t => .cons hp hx (ip.lst s) (ix.lst s) (sqT_lstA s hq) (t.lst s)
theorem Jobs.wt {H : Hp} : ∀ {ts : List Job} {vs : List V}, Jobs K H ts vs → vs.length ≤ Toy.wt ts
  | _, _, .nil => Nat.le_refl _
  | _, _, .cons (d := d) hp hx ip ix hq t => by
    have := t.wt
    have : 0 < 5 ^ (d + 1) := Nat.pow_pos (by decide)
    show _ + 1 ≤ 5 ^ (d + 1) + Toy.wt _
    omega
theorem Jobs.app {H : Hp} : ∀ {ts tn : List Job} {vs vn : List V}, Jobs K H ts vs → Jobs K H tn vn → Jobs K H (ts ++ tn) (vs ++ vn)
  | _, _, _, _, .nil, h => h
  | _, _, _, _, .cons hp hx ip ix hq t, h => .cons hp hx ip ix hq (t.app h)
theorem wt_app : ∀ (a b : List Job), wt (a ++ b) = wt a + wt b
  | [], b => (Nat.zero_add _).symm
  | t :: r, b => by
    show 5 ^ (t.2.2 + 1) + wt (r ++ b) = 5 ^ (t.2.2 + 1) + wt r + wt b
    rw [wt_app r b, Nat.add_assoc]
theorem tk_fn {n : Nat} {g t x : Str} {pc b : PV} : tk (n + 1) (.tup [.str g, .str t, pc]) (.tup [.str "fn", .str x, b]) = false := by
  show (decide (Str.ofString "fn" = Str.ofString "tag") && (decide (x = t) && tk n pc b)) = false
  rw [show decide (Str.ofString "fn" = Str.ofString "tag") = false from by decide +kernel, Bool.false_and]
theorem tk_tag {n : Nat} {g t x : Str} {pc b : PV} : tk (n + 1) (.tup [.str g, .str t, pc]) (.tup [.str "tag", .str x, b]) = (decide (x = t) && tk n pc b) := by
  show (decide (Str.ofString "tag" = Str.ofString "tag") && (decide (x = t) && tk n pc b)) = _
  rw [show decide (Str.ofString "tag" = Str.ofString "tag") = true from by decide +kernel, Bool.true_and]
theorem ifDbs {a b : Str} {A B : Prop} (h1 : ¬ a = b → A) (h2 : a = b → B) : if (!decide (V.str a = V.str b)) = true then A else B := by
  by_cases e : a = b
  · rw [decide_eq_true (congrArg V.str e)]
    exact h2 e
  · rw [decide_eq_false (fun z => e (V.str.inj z))]
    exact h1 e
theorem rPop_rev {l : Addr} {H : Hp} {v : V} {vs : List V} {Q : VK} (h : H l = some (.lst (v :: vs).reverse)) (k : Q v (upd H l (.lst vs.reverse))) : rPop (.ref l) [] H Q := by
  refine ⟨l, _, v, rfl, rfl, h, ?_, ?_⟩
  · rw [List.reverse_cons, List.length_append, List.length_singleton, Nat.add_sub_cancel, List.getElem?_append_right (Nat.le_refl _), Nat.sub_self]
    rfl
  · rw [List.reverse_cons, List.dropLast_concat]
    exact k
theorem rApp_rev {l : Addr} {H : Hp} {y : V} {vs : List V} {Q : VK} (h : H l = some (.lst vs.reverse)) (hz : vs.length < sizeLine) (k : Q .non (upd H l (.lst (y :: vs).reverse))) : rAppend (.ref l) [y] H Q := by
  refine ⟨l, _, y, rfl, rfl, h, by rw [List.length_reverse]; exact hz, ?_⟩
  rw [List.reverse_cons] at k
  exact k
def spTakes (K : PySem.W.Frag) : Sp := fun vs H Q _ => ∃ (p x : PV) (u v : V) (d : Nat), vs = [u, v] ∧ PP p ∧ VT d x ∧ Is K H p u ∧ Is K H x v ∧ d ≤ 3 ∧ ∀ H', Same H H' → Q (.bl (tk (d + 1) p x)) H'
set_option maxHeartbeats 1000000 in
theorem ok_takes (T : Top w K mg A) : FnOk P w K mg base CX0 1 A.a_takes A.fd_takes ["pattern", "tree"] (spTakes K) := by
  refine T.F_takes.ok sc_takes (fun vs H Q E h => ?_) (fun cdv A' outer s H vs Q E hr h => ?_)
  · obtain ⟨p, x, u, v, d, rfl, _⟩ := h
    rfl
  · obtain ⟨p, x, u, v, d, rfl, hp, hx, ip, ix, hd, k⟩ := h
    refine ⟨_, (pss_cons (ps_set (i := 2) sc_takes.nd rfl (Or.inl rfl) (pe_lst (pa_cons (pe_tup (pa_cons (pv 0) (pa_cons (pv 1) pa_nil))) pa_nil)))
    (pss_cons (ps_while PassesOwn.never (pt_lst (K := K) rfl (pv 2) (fun _ => rfl)) (pss_cons (ps_asg (pe_bm0 PySem.F.plainAttrs_list PySem.F.slot_list_pop PySem.F.type_list_pop mt_pop (pv 2)) (pg_tup rfl (pgs_cons (pg_name (i := 3) sc_takes.nd rfl (Or.inl rfl)) (pgs_cons (pg_name (i := 4) sc_takes.nd rfl (Or.inl rfl)) pgs_nil))))
    (pss_cons (ps_if (pt_cmpR (U.uIn (K := K) rfl) (pe_ix (U.uIx (K := K) rfl) (pv 3) pe_int (fun _ _ => rfl)) (pe_tup (pa_cons pe_str (pa_cons pe_str pa_nil))) rfl) (pss_one ps_continue) pss_nil)
    (pss_cons (ps_if (pt_cmpR (U.uNe (K := K) rfl hr.units) (pe_ix (U.uIx (K := K) rfl) (pv 3) pe_int (fun _ _ => rfl)) (pe_ix (U.uIx (K := K) rfl) (pv 4) pe_int (fun _ _ => rfl)) (nomark _)) (pss_one (ps_ret pe_bl)) pss_nil)
    (pss_one (ps_if (pt_cmpR (U.uEq (K := K) rfl hr.units) (pe_ix (U.uIx (K := K) rfl) (pv 3) pe_int (fun _ _ => rfl)) pe_str (nomark _)) (pss_cons (ps_if (pt_cmpR (U.uNe (K := K) rfl hr.units) (pe_ix (U.uIx (K := K) rfl) (pv 3) pe_int (fun _ _ => rfl)) (pe_ix (U.uIx (K := K) rfl) (pv 4) pe_int (fun _ _ => rfl)) (nomark _)) (pss_one (ps_ret pe_bl)) pss_nil)
    (pss_one (ps_expr (pe_bm PySem.F.plainAttrs_list PySem.F.slot_list_append PySem.F.type_list_append mt_append (pv 2) (pa_cons (pe_tup (pa_cons (pe_ix (U.uIx (K := K) rfl) (pv 3) pe_int (fun _ _ => rfl)) (pa_cons (pe_ix (U.uIx (K := K) rfl) (pv 4) pe_int (fun _ _ => rfl)) pa_nil))) pa_nil))))) (pss_cons (ps_set (i := 5) sc_takes.nd rfl (Or.inl rfl) (pe_callTy ((cr_dictPT rfl).or call_dictD) (by rfl) T.n_dict (by decide +kernel) (pa_cons (pe_ix (U.uIx (K := K) rfl) (pv 4) pe_int (fun _ _ => rfl)) pa_nil)))
    (pss_one (ps_for PassesOwn.never rfl (pi_tup (pe_ix (U.uIx (K := K) rfl) (pv 3) pe_int (fun _ _ => rfl))) (pg_tup rfl (pgs_cons (pg_name (i := 6) sc_takes.nd rfl (Or.inl rfl)) (pgs_cons (pg_name (i := 7) sc_takes.nd rfl (Or.inl rfl)) pgs_nil))) (pss_cons (ps_if (pt_cmp (pc_dnotin (Nat.lt_of_le_of_lt (Nat.add_le_add_left (m := 64) (n := 1) (by decide) _) hr.units) (pv 6) (pv 5)) rfl) (pss_one (ps_ret pe_bl)) pss_nil)
    (pss_one (ps_expr (pe_bm PySem.F.plainAttrs_list PySem.F.slot_list_append PySem.F.type_list_append mt_append (pv 2) (pa_cons (pe_tup (pa_cons (pv 7) (pa_cons (pe_dget (Nat.lt_of_le_of_lt (Nat.add_le_add_left (m := 64) (n := 1) (by decide) _) hr.units) (pv 5) (pv 6) (fun _ _ => rfl)) pa_nil))) pa_nil))))))))))))))
    (pss_one (ps_ret pe_bl)))), ?_⟩
    walk_at "w"
    intro q0 n0; generalize hX : upd _ q0 _ = H1; obtain ⟨s1, g1⟩ := U.newF n0 hX; clear hX
    walk_at "w"
    intro D nD; generalize hX : upd _ D _ = H2; obtain ⟨s2, g2⟩ := U.newF nD hX; clear hX
    walk_at "w"
    have Dq : D ≠ q0 := fun z => by rw [z, g1] at nD; cases nD
    have nDH : H D = none := s1.free nD
    have s12 : Same H H2 := s1.trans s2
    refine ⟨fun m σ H' => ∃ (ts : List Job) (vs : List V) (o3 o4 o5 o6 o7 : Option V), wt ts ≤ m ∧ m ≤ 625 ∧ σ = [some u, some v, some (.ref D), o3, o4, o5, o6, o7] ∧ H' D = some (.lst vs.reverse) ∧ Jobs K H' ts vs ∧ U.SameBut D H2 H' ∧ tk (d + 1) p x = ts.all jobB,
      ⟨5 ^ (d + 1), [(p, x, d)], [V.ref q0], _, _, _, _, _, Nat.le_refl _, ?_, rfl, g2, .cons hp hx (ip.keep s12) (ix.keep s12) (SqT.of (s2 _ _ g1)) .nil, U.SameBut.refl _ _, ?_⟩, ?_⟩
    · exact Nat.le_trans (Nat.pow_le_pow_right (by decide) (show d + 1 ≤ 4 by omega)) (by decide)
    · show _ = (jobB (p, x, d) && true)
      rw [Bool.and_true]
      rfl
    rintro m σ H' ⟨ts, vs, o3, o4, o5, o6, o7, hw, hm, rfl, gD, hj, sb, hk⟩
    walk_at "w"
    refine ⟨D, _, rfl, SqL.of gD, ?_⟩
    cases hj with
    | nil =>
      walk_at "w"
      have k2 := k H' (U.Same.but s12 sb nDH)
      rw [hk] at k2
      exact k2
    | @cons p1 x1 d1 u1 v1 q1 ts vs hp1 hx1 ip1 ix1 hq1 tj =>
      rw [show (!(V.ref q1 :: vs).reverse.isEmpty) = true from by rw [List.reverse_cons]; cases vs.reverse <;> rfl]
      have hd5 : 0 < 5 ^ (d1 + 1) := Nat.pow_pos (by decide)
      have hw1 : 5 ^ (d1 + 1) + wt ts ≤ m := hw
      refine ⟨fun σ' H2 => _, fun σ' H2 q => ⟨m - 1, by omega, q⟩, ?_⟩
      walk_at "w"
      refine rPop_rev gD ?_
      have L3 : Lst H' (upd H' D (.lst vs.reverse)) := .but (U.SameBut.refl _ _).upd ⟨_, gD⟩ ⟨_, upd_same⟩
      have sb3 : U.SameBut D H2 (upd H' D (.lst vs.reverse)) := sb.upd
      have g3 : (upd H' D (.lst vs.reverse)) D = some (.lst vs.reverse) := upd_same
      generalize upd H' D (.lst vs.reverse) = H3 at L3 sb3 g3 ⊢
      have ip3 := ip1.lst L3
      have ix3 := ix1.lst L3
      have tj3 := tj.lst L3
      have hq3 := sqT_lstA L3 hq1
      walk_at "w"
      refine ⟨q1, _, rfl, hq3, rfl, ?_⟩
      walk_at "w"
      have hk : tk (d + 1) p x = (jobB (p1, x1, d1) && ts.all jobB) := hk
      have kno : jobB (p1, x1, d1) = false → ∀ H4, U.SameBut D H3 H4 → Q (.bl false) H4 := fun e H4 s4 => by
        have k2 := k H4 (U.Same.but s12 (sb3.trans s4) nDH)
        rw [hk, e] at k2
        exact k2
      have kgo : ∀ (tn : List Job) (vn : List V) (H4 : Hp) (o3 o4 o5 o6 o7 : Option V), wt tn < 5 ^ (d1 + 1) → Jobs K H4 tn vn → jobB (p1, x1, d1) = tn.all jobB → H4 D = some (.lst (vn ++ vs).reverse) → U.SameBut D H3 H4 →
          ∃ (ts : List Job) (vs : List V) (p3 p4 p5 p6 p7 : Option V), wt ts ≤ m - 1 ∧ m - 1 ≤ 625 ∧ [some u, some v, some (.ref D), o3, o4, o5, o6, o7] = [some u, some v, some (.ref D), p3, p4, p5, p6, p7] ∧ H4 D = some (.lst vs.reverse) ∧ Jobs K H4 ts vs ∧ U.SameBut D H2 H4 ∧ tk (d + 1) p x = ts.all jobB := fun tn vn H4 o3 o4 o5 o6 o7 h1 h2 h3 h4 h5 => by
        refine ⟨tn ++ ts, vn ++ vs, _, _, _, _, _, ?_, by omega, rfl, h4, ?_, sb3.trans h5, ?_⟩
        · rw [wt_app]
          omega
        · exact h2.app (tj3.lst (.but h5 ⟨_, g3⟩ ⟨_, h4⟩))
        · rw [hk, h3, List.all_append]
      cases hp1 with
      | any =>
        cases ip3 with
        | tup tp ha =>
          cases ha with
          | cons h0 ha =>
            cases h0
            refine Or.inr (Or.inl ⟨_, _, _, _, rfl, rfl, tp.1, U.atN 0 rfl rfl, ?_⟩)
            walk_at "w"
            intro qa na; generalize hX : upd _ qa _ = H4; obtain ⟨s4, g4⟩ := U.newF na hX; clear hX
            refine Or.inr ⟨qa, _, rfl, Or.inr (SqT.of g4), rfl, rfl, ?_⟩
            walk_at "w"
            exact kgo [] [] H4 _ _ _ _ _ hd5 .nil rfl (s4 _ _ g3) (.of s4)
      | bind z =>
        cases ip3 with
        | tup tp ha =>
          cases ha with
          | cons h0 ha =>
            cases h0
            refine Or.inr (Or.inl ⟨_, _, _, _, rfl, rfl, tp.1, U.atN 0 rfl rfl, ?_⟩)
            walk_at "w"
            intro qa na; generalize hX : upd _ qa _ = H4; obtain ⟨s4, g4⟩ := U.newF na hX; clear hX
            refine Or.inr ⟨qa, _, rfl, Or.inr (SqT.of g4), rfl, rfl, ?_⟩
            walk_at "w"
            exact kgo [] [] H4 _ _ _ _ _ hd5 .nil rfl (s4 _ _ g3) (.of s4)
      | @tag t pc hc =>
        cases ip3 with
        | tup tp ha =>
          cases ha with
          | cons h0 ha =>
            cases h0
            refine Or.inr (Or.inl ⟨_, _, _, _, rfl, rfl, tp.1, U.atN 0 rfl rfl, ?_⟩)
            walk_at "w"
            intro qa na; generalize hX : upd _ qa _ = H4; obtain ⟨s4, g4⟩ := U.newF na hX; clear hX
            have tpy := tp.keep s4
            have hay := IsAll.keep s4 ha
            have ixy := ix3.keep s4
            have g34 := s4 _ _ g3
            refine Or.inr ⟨qa, _, rfl, Or.inr (SqT.of g4), rfl, rfl, ?_⟩
            walk_at "w"
            refine Or.inr (Or.inl ⟨_, _, _, _, rfl, rfl, tpy.1, U.atN 0 rfl rfl, ?_⟩)
            walk_at "w"
            cases hay with
            | cons i1 hay2 =>
              cases i1
              cases hay2 with
              | cons i2 hay3 =>
                cases hay3
                cases hx1 with
                | number hi hu =>
                  cases ixy with
                  | tup tx hax =>
                    cases hax with
                    | cons g0 hax =>
                      cases g0
                      refine Or.inr (Or.inl ⟨_, _, _, _, rfl, rfl, tx.1, U.atN 0 rfl rfl, ?_⟩)
                      walk_at "w"
                      exact kno (rfl) H4 (.of s4)
                | fn hb =>
                  cases ixy with
                  | tup tx hax =>
                    cases hax with
                    | cons g0 hax =>
                      cases g0
                      refine Or.inr (Or.inl ⟨_, _, _, _, rfl, rfl, tx.1, U.atN 0 rfl rfl, ?_⟩)
                      walk_at "w"
                      exact kno tk_fn H4 (.of s4)
                | record hes =>
                  cases ixy with
                  | tup tx hax =>
                    cases hax with
                    | cons g0 hax =>
                      cases g0
                      refine Or.inr (Or.inl ⟨_, _, _, _, rfl, rfl, tx.1, U.atN 0 rfl rfl, ?_⟩)
                      walk_at "w"
                      exact kno (rfl) H4 (.of s4)
                | @tag d2 t2 c2 ht2 hc2 =>
                  cases ixy with
                  | tup tx hax =>
                    cases hax with
                    | cons g0 hax =>
                      cases g0
                      cases hax with
                      | cons g1x hax =>
                        cases g1x
                        cases hax with
                        | cons g2x hax =>
                          cases hax
                          refine Or.inr (Or.inl ⟨_, _, _, _, rfl, rfl, tx.1, U.atN 0 rfl rfl, ?_⟩)
                          walk_at "w"
                          refine Or.inr (Or.inl ⟨_, _, _, _, rfl, rfl, tpy.1, U.atN 0 rfl rfl, ?_⟩)
                          walk_at "w"
                          refine Or.inr (Or.inl ⟨_, _, _, _, rfl, rfl, tpy.1, U.atN 1 rfl rfl, ?_⟩)
                          walk_at "w"
                          refine Or.inr (Or.inl ⟨_, _, _, _, rfl, rfl, tx.1, U.atN 1 rfl rfl, ?_⟩)
                          walk_at "w"
                          refine ifDbs (fun ht => ?_) (fun ht => ?_)
                          · walk_at "w"
                            exact kno (by show tk _ _ _ = _; rw [tk_tag, decide_eq_false (fun z => ht z.symm), Bool.false_and]) H4 (.of s4)
                          · walk_at "w"
                            refine Or.inr (Or.inl ⟨_, _, _, _, rfl, rfl, tpy.1, U.atN 2 rfl rfl, ?_⟩)
                            walk_at "w"
                            refine Or.inr (Or.inl ⟨_, _, _, _, rfl, rfl, tx.1, U.atN 2 rfl rfl, ?_⟩)
                            walk_at "w"
                            intro q5 n5; generalize hX : upd _ q5 _ = H5; obtain ⟨s5, g5⟩ := U.newF n5 hX; clear hX
                            walk_at "w"
                            have g35 := s5 _ _ g34
                            have hvs : vs.length ≤ 625 := by
                              have := tj.wt
                              omega
                            refine ⟨D, _, _, rfl, rfl, g35, by rw [List.length_reverse, PySem.sizeLine_eq]; omega, ?_⟩
                            rw [← List.reverse_cons]
                            walk_at "w"
                            have Ld : Lst H5 (upd H5 D (.lst (V.ref q5 :: vs).reverse)) := .but (U.SameBut.refl _ _).upd ⟨_, g35⟩ ⟨_, upd_same⟩
                            refine kgo [(pc, c2, d2)] [V.ref q5] _ _ _ _ _ _ ?_ (.cons hc hc2 ((i2.keep s5).lst Ld) ((g2x.keep s5).lst Ld) (sqT_lstA Ld (SqT.of g5)) .nil) ?_ upd_same ((U.SameBut.of (s4.trans s5)).trans (U.SameBut.refl _ _).upd)
                            · show 5 ^ (d2 + 1) + 0 < 5 ^ (d2 + 1 + 1)
                              rw [Nat.pow_succ 5 (d2 + 1)]
                              have : 0 < 5 ^ (d2 + 1) := Nat.pow_pos (by decide)
                              omega
                            · show tk _ _ _ = (tk _ _ _ && true)
                              rw [tk_tag, decide_eq_true ht.symm, Bool.true_and, Bool.and_true]
      | @record fs he hle =>
        cases ip3 with
        | tup tp ha =>
          cases ha with
          | cons h0 ha =>
            cases h0
            refine Or.inr (Or.inl ⟨_, _, _, _, rfl, rfl, tp.1, U.atN 0 rfl rfl, ?_⟩)
            walk_at "w"
            intro qa na; generalize hX : upd _ qa _ = H4; obtain ⟨s4, g4⟩ := U.newF na hX; clear hX
            have tpy := tp.keep s4
            have hay := IsAll.keep s4 ha
            have ixy := ix3.keep s4
            have g34 := s4 _ _ g3
            refine Or.inr ⟨qa, _, rfl, Or.inr (SqT.of g4), rfl, rfl, ?_⟩
            walk_at "w"
            refine Or.inr (Or.inl ⟨_, _, _, _, rfl, rfl, tpy.1, U.atN 0 rfl rfl, ?_⟩)
            walk_at "w"
            cases hay with
            | cons i2 hay3 =>
              cases hay3
              cases hx1 with
              | number hi hu =>
                cases ixy with
                | tup tx hax =>
                  cases hax with
                  | cons g0 hax =>
                    cases g0
                    refine Or.inr (Or.inl ⟨_, _, _, _, rfl, rfl, tx.1, U.atN 0 rfl rfl, ?_⟩)
                    walk_at "w"
                    exact kno (rfl) H4 (.of s4)
              | fn hb =>
                cases ixy with
                | tup tx hax =>
                  cases hax with
                  | cons g0 hax =>
                    cases g0
                    refine Or.inr (Or.inl ⟨_, _, _, _, rfl, rfl, tx.1, U.atN 0 rfl rfl, ?_⟩)
                    walk_at "w"
                    exact kno (rfl) H4 (.of s4)
              | tag ht2 hc2 =>
                cases ixy with
                | tup tx hax =>
                  cases hax with
                  | cons g0 hax =>
                    cases g0
                    refine Or.inr (Or.inl ⟨_, _, _, _, rfl, rfl, tx.1, U.atN 0 rfl rfl, ?_⟩)
                    walk_at "w"
                    exact kno (rfl) H4 (.of s4)
              | @record d2 n2 es hes =>
                cases ixy with
                | tup tx hax =>
                  cases hax with
                  | cons g0 hax =>
                    cases g0
                    cases hax with
                    | cons g1x hax =>
                      cases g1x with
                      | @tup pe _ vse t1 ha1 =>
                        cases hax
                        refine Or.inr (Or.inl ⟨_, _, _, _, rfl, rfl, tx.1, U.atN 0 rfl rfl, ?_⟩)
                        walk_at "w"
                        refine Or.inr (Or.inl ⟨_, _, _, _, rfl, rfl, tpy.1, U.atN 0 rfl rfl, ?_⟩)
                        walk_at "w"
                        refine Or.inr (Or.inl ⟨_, _, _, _, rfl, rfl, tx.1, U.atN 1 rfl rfl, ?_⟩)
                        walk_at "w"
                        obtain ⟨ps, kvs, eps, hps, hke, hkl⟩ := VE.pairs hes ha1
                        have tf : TupF H4 pe (ps.map V.ref) := by
                          have := t1.2.2 hes.ents
                          rw [eps] at this
                          exact this
                        refine Or.inl ⟨_, ps, kvs, rfl, tf, hps, fun F nF => ?_⟩
                        have em : mergeK [] kvs = kvs := mergeK_nd (acc := []) (by rw [List.nil_append, hkl]; exact labs_nd)
                        rw [em]
                        have FD : F ≠ D := fun z => by rw [z, g34] at nF; cases nF
                        generalize hX : upd _ F _ = H5
                        obtain ⟨s5, g5⟩ := U.newF nF hX
                        clear hX
                        have g35 := s5 _ _ g34
                        walk_at "w"
                        refine Or.inr (Or.inl ⟨_, _, _, _, rfl, rfl, (tpy.keep s5).1, U.atN 1 rfl rfl, ?_⟩)
                        have i25 := i2.keep s5
                        cases i25 with
                        | @tup pp _ vsp t2 ha2 =>
                          walk_at "w"
                          refine ⟨⟨_, t2.1⟩, ?_⟩
                          have hke5 := hke.keep s5
                          refine for_tup (K := K) (a := pp) (xs := vsp) (fun i σ Hj => ∃ (tn : List Job) (vn : List V) (a b o6 o7 : Option V), σ = [some u, some v, some (.ref D), a, b, some (.ref F), o6, o7] ∧ wt tn ≤ i * 5 ^ (d2 + 1) ∧ Jobs K Hj tn vn ∧ Hj D = some (.lst (vn ++ vs).reverse) ∧ U.SameBut D H5 Hj ∧ fs.all (tkE (d2 + 1) es) = (tn.all jobB && (fs.drop i).all (tkE (d2 + 1) es)))
                            ⟨[], [], _, _, _, _, rfl, Nat.zero_le _, .nil, g35, U.SameBut.refl _ _, rfl⟩ (fun i σ Hj _ st => ?_) ?_ ?_
                          · obtain ⟨_, _, _, _, _, _, _, _, _, gj, sj, _⟩ := st
                            exact sqT_lstA (.but sj ⟨_, g35⟩ ⟨_, gj⟩) t2.1
                          · rintro i v0 σ Hj hv0 ⟨tn, vn, a, b, o6, o7, rfl, hwn, hjn, gj, sj, hmn⟩
                            have Lj : Lst H5 Hj := .but sj ⟨_, g35⟩ ⟨_, gj⟩
                            obtain ⟨f, hf, isf⟩ := ha2.nth hv0
                            have isf := isf.lst Lj
                            obtain ⟨hi, ef⟩ := List.getElem?_eq_some_iff.mp hf
                            rw [List.drop_eq_getElem_cons hi, ef, List.all_cons] at hmn
                            obtain ⟨l, pc, rfl, hpc⟩ := he.nth hf
                            cases isf with
                            | @tup pf _ vsf tpf haf =>
                              cases haf with
                              | cons if0 haf =>
                                cases if0
                                cases haf with
                                | @cons _ uf _ _ if1 haf =>
                                  cases haf
                                  refine ⟨pf, _, rfl, tpf.1, rfl, ?_⟩
                                  walk_at "w"
                                  have gF : Hj F = some (.dK kvs) := sj _ _ FD g5
                                  refine ⟨F, _, rfl, .inl ⟨kvs, .inr l, Rd.of gF, rfl, rfl⟩, ?_⟩
                                  have kej := (hke5.lst Lj).look (l := l)
                                  rcases kej with ⟨e1, e2⟩ | ⟨e, ue, e1, e2, ie⟩
                                  · rw [e1]
                                    walk_at "w"
                                    refine kno ?_ Hj ((U.SameBut.of (s4.trans s5)).trans sj)
                                    show fs.all (tkE (d2 + 1) es) = false
                                    rw [hmn]
                                    show (_ && ((match look es l with | some e => tk (d2 + 1) pc e | none => false) && _)) = false
                                    rw [e2, Bool.false_and, Bool.and_false]
                                  · rw [e1]
                                    walk_at "w"
                                    refine ⟨F, ue, rfl, .inl ⟨kvs, .inr l, Rd.of gF, rfl, e1.symm⟩, ?_⟩
                                    walk_at "w"
                                    intro q6 n6; generalize hX : upd _ q6 _ = H6; obtain ⟨s6, g6⟩ := U.newF n6 hX; clear hX
                                    have g36 := s6 _ _ gj
                                    walk_at "w"
                                    have hx : tkE (d2 + 1) es (.tup [.str l, pc]) = tk (d2 + 1) pc e := by
                                      show (match look es l with | some e => tk (d2 + 1) pc e | none => false) = _
                                      rw [e2]
                                    have hi4 : i < 4 := by omega
                                    have hp5 : 0 < 5 ^ (d2 + 1) := Nat.pow_pos (by decide)
                                    have hw5 : 5 ^ (d2 + 1 + 1) = 5 ^ (d2 + 1) * 5 := Nat.pow_succ 5 (d2 + 1)
                                    have hi5 : i * 5 ^ (d2 + 1) ≤ 3 * 5 ^ (d2 + 1) := Nat.mul_le_mul_right _ (by omega)
                                    have hl : (vn ++ vs).length ≤ 625 := by
                                      have := tj.wt
                                      have := hjn.wt
                                      rw [List.length_append]
                                      omega
                                    refine ⟨D, _, _, rfl, rfl, g36, by rw [List.length_reverse, PySem.sizeLine_eq]; omega, ?_⟩
                                    rw [← List.reverse_cons]
                                    have Ld : Lst H6 (upd H6 D (.lst (V.ref q6 :: (vn ++ vs)).reverse)) := .but (U.SameBut.refl _ _).upd ⟨_, g36⟩ ⟨_, upd_same⟩
                                    have L6 : Lst Hj H6 := .of s6
                                    refine ⟨(pc, e, d2) :: tn, V.ref q6 :: vn, _, _, _, _, rfl, ?_, .cons hpc (hes.look e2) ((if1.keep s6).lst Ld) ((ie.keep s6).lst Ld) (sqT_lstA Ld (SqT.of g6)) (hjn.lst (L6.trans Ld)), upd_same, (sj.trans (.of s6)).upd, ?_⟩
                                    · show 5 ^ (d2 + 1) + wt tn ≤ (i + 1) * 5 ^ (d2 + 1)
                                      rw [Nat.succ_mul]
                                      omega
                                    · rw [hmn, hx]
                                      show _ = ((tk (d2 + 1) pc e && tn.all jobB) && _)
                                      rw [← Bool.and_assoc, Bool.and_comm (tn.all jobB)]
                          · rintro σ Hj ⟨tn, vn, a, b, o6, o7, rfl, hwn, hjn, gj, sj, hmn⟩
                            refine kgo tn vn Hj _ _ _ _ _ ?_ hjn ?_ gj ((U.SameBut.of (s4.trans s5)).trans sj)
                            · have hp5 : 0 < 5 ^ (d2 + 1) := Nat.pow_pos (by decide)
                              have hw5 : 5 ^ (d2 + 1 + 1) = 5 ^ (d2 + 1) * 5 := Nat.pow_succ 5 (d2 + 1)
                              have hl4 : vsp.length * 5 ^ (d2 + 1) ≤ 4 * 5 ^ (d2 + 1) := Nat.mul_le_mul_right _ (by rw [← ha2.len]; exact hle)
                              omega
                            · show fs.all (tkE (d2 + 1) es) = _
                              rw [hmn, List.drop_eq_nil_of_le (by rw [ha2.len]; exact Nat.le_refl _)]
                              exact Bool.and_true _
end
section
variable {P : Program} {w : World} {K : PySem.W.Frag} {mg : Str → Option Value} {base : Heap} {A : Ad}
def spInit (C : Addr) : Sp := fun vs H Q _ => ∃ (a dx : Addr) (h l : Int), vs = [.ref a, .int h, .int l] ∧ H a = some (.ins C dx []) ∧ 0 < l ∧ l ≤ 1000 ∧ h.natAbs ≤ 1000 ∧ ∀ H', (∀ b, b ≠ a → H' b = H b) → (∃ fs, H' a = some (.ins C dx fs)) → Q .non H'
theorem ok_Ratio_init (T : Top w K mg A) : FnOk P w K mg base CX0 1 A.a_Ratio_init A.fd_Ratio_init ["self", "top", "bottom"] (spInit A.c_Ratio) := by
  refine T.F_Ratio_init.ok sc_Ratio_init (fun vs H Q E h => ?_) (fun cdv A' outer s H vs Q E hr h => ?_)
  · obtain ⟨a, dx, h, l, rfl, _⟩ := h
    rfl
  · obtain ⟨a, dx, h, l, rfl, ea, l0, l1, h1, k⟩ := h
    refine ⟨_, (pss_cons (ps_if (pt_cmpR (U.uEq (K := K) rfl hr.units) (pv 2) pe_int (nomark _)) (pss_one ps_false) pss_nil)
    (pss_cons (ps_set (i := 3) sc_Ratio_init.nd rfl (Or.inl rfl) (pe_callBfun cr_gcd rfl T.m_gcd (pa_cons (pv 1) (pa_cons (pv 2) pa_nil))))
    (pss_cons (ps_if (pt_cmpR U.uLt (pv 2) pe_int (nomark _)) (pss_one (ps_set (i := 3) sc_Ratio_init.nd rfl (Or.inl rfl) (pe_un un_neg (pv 3)))) pss_nil)
    (pss_cons (ps_fld (pv 0) (pe_op op_fdiv (pv 1) (pv 3)) rfl)
    (pss_one (ps_fld (pv 0) (pe_op op_fdiv (pv 2) (pv 3)) rfl)))))), ?_⟩
    have g0 : 0 < Nat.gcd h.natAbs l.natAbs := Nat.gcd_pos_of_pos_right _ (by omega)
    have g1 : Nat.gcd h.natAbs l.natAbs ≤ 1000 := Nat.le_trans (Nat.gcd_le_right _ (by omega)) (by omega)
    walk_at "w"
    refine ⟨a, _, dx, [], rfl, ea, T.cls_Ratio, T.na_Ratio_top, by decide, ?_⟩
    walk_at "w"
    refine ⟨a, _, dx, _, rfl, upd_same, T.cls_Ratio, T.na_Ratio_bottom, (by show 1 < 1000; decide), ?_⟩
    exact k _ (fun b hb => by rw [upd_ne hb, upd_ne hb]) ⟨_, upd_same⟩
end
section
variable {P : Program} {w : World} {K : PySem.W.Frag} {mg : Str → Option Value} {base : Heap} {A : Ad}
def oddM : List PV := [.tup [.str "name", .str "x"], .tup [.str "fail", .str "gap"], .tup [.str "fn", .str "x", .tup [.str "name", .str "y"]], .tup [.str "field", .tup [.str "record", .tup []], .str "a"], .tup [.str "call", .tup [.str "fn", .str "x", .tup [.str "name", .str "x"]], .tup [.str "number", .int 1, .non]], .tup [.str "number", .int (-1), .non], .tup [.str "tag", .str "a", .tup [.str "record", .tup []]], .tup [.str "number", .bl true, .non], .oth, .non, .str "A", .tup [.str "record", .oth], .tup [.str "told", .tup [.str "number", .int 1, .non], .tup [.str "num", .tup []]], .oth, .oth, .oth, .tup [.str "number", .oth, .non], .tup [.str "number", .int 1, .oth], .tup [.str "fn", .oth, .tup [.str "number", .int 1, .non]], .tup [.str "fn", .int 1, .tup [.str "number", .int 1, .non]], .tup [.str "tag", .tup [.str "A"], .tup [.str "number", .int 1, .non]], .tup [.str "tag", .oth, .tup [.str "number", .int 1, .non]], .tup [.str "record", .oth], .oth]
/-- a drawn odd value -/
inductive OD : Nat → PV → Prop
  | leaf {d : Nat} {x : PV} (h : x ∈ oddM) : OD d x
  | tag {d : Nat} {x : PV} (h : OD d x) : OD (d + 1) (.tup [.str "tag", .str "A", x])
  | record {d : Nat} {t x : PV} (ht : VT 1 t) (h : OD d x) : OD (d + 1) (.tup [.str "record", .tup [.tup [.str "a", t], .tup [.str "b", x]]])
def spOD (K : PySem.W.Frag) : Nat → Sp
  | 0 => fun _ _ _ _ => False
  | m + 1 => fun vs H Q _ => ∃ (p : Addr) (d : Nat), vs = [.ref p, .int d] ∧ PoolAt H p ∧ d ≤ m ∧ ∀ (x : PV) (v : V) (H' : Hp), OD d x → Is K H' x v → PoolAt H' p → U.SameBut p H H' → Q v H'
theorem spOD_mk {m d : Nat} {p : Addr} {vs : List V} {H : Hp} {Q : VK} {E : XK} (hm : d + 1 ≤ m) (e : vs = [.ref p, .int d]) (h : PoolAt H p) (k : ∀ (x : PV) (v : V) (H' : Hp), OD d x → Is K H' x v → PoolAt H' p → U.SameBut p H H' → Q v H') : spOD K m vs H Q E := by
  cases m with
  | zero => exact absurd hm (Nat.not_succ_le_zero _)
  | succ m => exact ⟨p, d, e, h, by omega, k⟩
set_option maxHeartbeats 4000000 in
theorem ok_oddR (T : Top w K mg A) : ∀ m : Nat, FnOk P w K mg base CX0 (7 + m) A.a_law_odd_of A.fd_law_odd_of ["pool", "deep"] (spOD K m)
  | 0 => T.F_law_odd_of.ok sc_law_odd_of (fun vs H Q E h => False.elim h) (fun cdv A outer s H vs Q E hr h => False.elim h)
  | m + 1 => by
    have ih := ok_oddR T m
    refine T.F_law_odd_of.ok sc_law_odd_of (fun vs H Q E h => ?_) (fun cdv A' outer s M0 vs Q E hr h => ?_)
    · obtain ⟨p, d, rfl, _⟩ := h
      rfl
    · obtain ⟨p, d, rfl, pl, hd, k⟩ := h
      have hr : Room (7 + m) _ := hr
      refine ⟨_, (pss_cons (ps_set (i := 2) sc_law_odd_of.nd rfl (Or.inl rfl) (pe_lst (pa_cons (pe_tupF (pa_cons pe_str (pa_cons pe_str pa_nil))) (pa_cons (pe_tupF (pa_cons pe_str (pa_cons pe_str pa_nil))) (pa_cons (pe_tupF (pa_cons pe_str (pa_cons pe_str (pa_cons (pe_tupF (pa_cons pe_str (pa_cons pe_str pa_nil))) pa_nil)))) (pa_cons (pe_tupF (pa_cons pe_str (pa_cons (pe_tupF (pa_cons pe_str (pa_cons (pe_tupF pa_nil) pa_nil))) (pa_cons pe_str pa_nil)))) pa_nil))))))
    (pss_cons (ps_set (i := 3) sc_law_odd_of.nd rfl (Or.inl rfl) (pe_tupF (pa_cons pe_str (pa_cons pe_int (pa_cons pe_non pa_nil)))))
    (pss_cons (ps_set (i := 2) sc_law_odd_of.nd rfl (Or.inl rfl) (pe_op U.uAdd (pv 2) (pe_lst (pa_cons (pe_tupF (pa_cons pe_str (pa_cons (pe_tupF (pa_cons pe_str (pa_cons pe_str (pa_cons (pe_tupF (pa_cons pe_str (pa_cons pe_str pa_nil))) pa_nil)))) (pa_cons (pv 3) pa_nil)))) (pa_cons (pe_tupF (pa_cons pe_str (pa_cons (pe_un un_neg pe_int) (pa_cons pe_non pa_nil)))) (pa_cons (pe_tupF (pa_cons pe_str (pa_cons pe_str (pa_cons (pe_tupF (pa_cons pe_str (pa_cons (pe_tupF pa_nil) pa_nil))) pa_nil)))) pa_nil))))))
    (pss_cons (ps_set (i := 2) sc_law_odd_of.nd rfl (Or.inl rfl) (pe_op U.uAdd (pv 2) (pe_lst (pa_cons (pe_tupF (pa_cons pe_str (pa_cons pe_bl (pa_cons pe_non pa_nil)))) (pa_cons (pe_lst pa_nil) (pa_cons pe_non (pa_cons pe_str (pa_cons (pe_tupF (pa_cons pe_str (pa_cons (pe_lst (pa_cons (pe_tupF (pa_cons pe_str (pa_cons (pv 3) pa_nil))) pa_nil)) pa_nil))) (pa_cons (pe_tupF (pa_cons pe_str (pa_cons (pv 3) (pa_cons (pe_tupF (pa_cons pe_str (pa_cons (pe_tupF pa_nil) pa_nil))) pa_nil)))) pa_nil)))))))))
    (pss_cons (ps_set (i := 2) sc_law_odd_of.nd rfl (Or.inl rfl) (pe_op U.uAdd (pv 2) (pe_lst (pa_cons pe_dnewK (pa_cons (pe_disp (pps_cons pe_str (pv 3) pps_nil) (by rfl) (by rfl) (fun z => by cases z) (by decide)) (pa_cons (pe_make T.mk_Ratio (ok_Ratio_init T) (hr.mono (by omega)) rfl T.m_Ratio T.b_Ratio_init .nil pass0 (pa_cons pe_int (pa_cons pe_int pa_nil))) (pa_cons (pe_tupF (pa_cons pe_str (pa_cons (pe_make T.mk_Ratio (ok_Ratio_init T) (hr.mono (by omega)) rfl T.m_Ratio T.b_Ratio_init .nil pass0 (pa_cons pe_int (pa_cons pe_int pa_nil))) (pa_cons pe_non pa_nil)))) pa_nil)))))))
    (pss_cons (ps_set (i := 2) sc_law_odd_of.nd rfl (Or.inl rfl) (pe_op U.uAdd (pv 2) (pe_lst (pa_cons (pe_tupF (pa_cons pe_str (pa_cons pe_int (pa_cons (pe_lst (pa_cons (pe_tupF (pa_cons pe_str (pa_cons pe_int pa_nil))) pa_nil)) pa_nil)))) (pa_cons (pe_tupF (pa_cons pe_str (pa_cons (pe_lst (pa_cons pe_str pa_nil)) (pa_cons (pv 3) pa_nil)))) pa_nil)))))
    (pss_cons (ps_set (i := 2) sc_law_odd_of.nd rfl (Or.inl rfl) (pe_op U.uAdd (pv 2) (pe_lst (pa_cons (pe_tupF (pa_cons pe_str (pa_cons pe_int (pa_cons (pv 3) pa_nil)))) (pa_cons (pe_tupF (pa_cons pe_str (pa_cons (pe_tupF (pa_cons pe_str pa_nil)) (pa_cons (pv 3) pa_nil)))) (pa_cons (pe_tupF (pa_cons pe_str (pa_cons pe_dnewK (pa_cons (pv 3) pa_nil)))) (pa_cons (pe_tupF (pa_cons pe_str (pa_cons (pe_disp (pps_cons pe_str (pv 3) pps_nil) (by rfl) (by rfl) (fun z => by cases z) (by decide)) pa_nil))) (pa_cons (pe_lst (pa_cons pe_str (pa_cons pe_int (pa_cons pe_non pa_nil)))) pa_nil))))))))
    (pss_cons (ps_if (pt_cmpR (U.uEq (K := K) rfl hr.units) (pv 1) pe_int (nomark _)) (pss_one (ps_ret (pe_ix (U.uIx (K := K) rfl) (pv 2) (pe_call (ok_law_draw T) (hr.mono (by omega)) rfl T.m_law_draw T.F_law_draw.kp T.b_law_draw .nil pass0 (pa_cons (pv 0) (pa_cons pe_int pa_nil))) (fun _ _ => rfl)))) pss_nil)
    (pss_cons (ps_set (i := 4) sc_law_odd_of.nd rfl (Or.inl rfl) (pe_call ih (hr.mono (by omega)) rfl T.m_law_odd_of T.F_law_odd_of.kp T.b_law_odd_of .nil pass0 (pa_cons (pv 0) (pa_cons (pe_op op_sub (pv 1) pe_int) pa_nil))))
    (pss_cons (ps_if (pt_cmpR (U.uEq (K := K) rfl hr.units) (pe_call (ok_law_draw T) (hr.mono (by omega)) rfl T.m_law_draw T.F_law_draw.kp T.b_law_draw .nil pass0 (pa_cons (pv 0) (pa_cons pe_int pa_nil))) pe_int (nomark _)) (pss_one (ps_ret (pe_tupF (pa_cons pe_str (pa_cons pe_str (pa_cons (pv 4) pa_nil)))))) pss_nil)
    (pss_one (ps_ret (pe_tupF (pa_cons pe_str (pa_cons (pe_tupF (pa_cons (pe_tupF (pa_cons pe_str (pa_cons (pe_call (ok_law_tree_of T) (hr.mono (by omega)) rfl T.m_law_tree_of T.F_law_tree_of.kp T.b_law_tree_of .nil pass0 (pa_cons (pv 0) (pa_cons pe_int pa_nil))) pa_nil))) (pa_cons (pe_tupF (pa_cons pe_str (pa_cons (pv 4) pa_nil))) pa_nil))) pa_nil))))))))))))))), ?_⟩
      walk_at "w"
      intro p1 _ ocp1 odp1 n1; generalize hX : upd _ p1 _ = M1; obtain ⟨s1, g1⟩ := U.newF n1 hX; clear hX
      walk_at "w"
      intro p2 _ ocp2 odp2 n2; generalize hX : upd _ p2 _ = M2; obtain ⟨s2, g2⟩ := U.newF n2 hX; clear hX
      walk_at "w"
      intro p3 _ ocp3 odp3 n3; generalize hX : upd _ p3 _ = M3; obtain ⟨s3, g3⟩ := U.newF n3 hX; clear hX
      walk_at "w"
      intro p4 _ ocp4 odp4 n4; generalize hX : upd _ p4 _ = M4; obtain ⟨s4, g4⟩ := U.newF n4 hX; clear hX
      walk_at "w"
      intro p5 _ ocp5 odp5 n5; generalize hX : upd _ p5 _ = M5; obtain ⟨s5, g5⟩ := U.newF n5 hX; clear hX
      walk_at "w"
      intro p6 _ ocp6 odp6 n6; generalize hX : upd _ p6 _ = M6; obtain ⟨s6, g6⟩ := U.newF n6 hX; clear hX
      walk_at "w"
      intro p7 _ ocp7 odp7 n7; generalize hX : upd _ p7 _ = M7; obtain ⟨s7, g7⟩ := U.newF n7 hX; clear hX
      walk_at "w"
      intro p8 n8; generalize hX : upd _ p8 _ = M8; obtain ⟨s8, g8⟩ := U.newF n8 hX; clear hX
      walk_at "w"
      intro p9 _ ocp9 odp9 n9; generalize hX : upd _ p9 _ = M9; obtain ⟨s9, g9⟩ := U.newF n9 hX; clear hX
      walk_at "w"
      intro p10 _ ocp10 odp10 n10; generalize hX : upd _ p10 _ = M10; obtain ⟨s10, g10⟩ := U.newF n10 hX; clear hX
      walk_at "w"
      intro p11 _ ocp11 odp11 n11; generalize hX : upd _ p11 _ = M11; obtain ⟨s11, g11⟩ := U.newF n11 hX; clear hX
      walk_at "w"
      intro p12 _ ocp12 odp12 n12; generalize hX : upd _ p12 _ = M12; obtain ⟨s12, g12⟩ := U.newF n12 hX; clear hX
      walk_at "w"
      intro p13 _ ocp13 odp13 n13; generalize hX : upd _ p13 _ = M13; obtain ⟨s13, g13⟩ := U.newF n13 hX; clear hX
      walk_at "w"
      intro p14 _ ocp14 odp14 n14; generalize hX : upd _ p14 _ = M14; obtain ⟨s14, g14⟩ := U.newF n14 hX; clear hX
      walk_at "w"
      intro p15 _ ocp15 odp15 n15; generalize hX : upd _ p15 _ = M15; obtain ⟨s15, g15⟩ := U.newF n15 hX; clear hX
      walk_at "w"
      intro p16 _ ocp16 odp16 n16; generalize hX : upd _ p16 _ = M16; obtain ⟨s16, g16⟩ := U.newF n16 hX; clear hX
      walk_at "w"
      intro p17 n17; generalize hX : upd _ p17 _ = M17; obtain ⟨s17, g17⟩ := U.newF n17 hX; clear hX
      walk_at "w"
      refine Or.inr (Or.inr ⟨p8, p17, _, _, rfl, rfl, (s17 _ _ (s16 _ _ (s15 _ _ (s14 _ _ (s13 _ _ (s12 _ _ (s11 _ _ (s10 _ _ (s9 _ _ g8))))))))), g17, U.sz (by show 4 + 3 ≤ 100000; decide), fun p18 n18 => ?_⟩)
      generalize hX : upd _ p18 _ = M18
      obtain ⟨s18, g18⟩ := U.newF n18 hX
      clear hX
      have g18 : M18 p18 = some (.lst [V.ref p1, V.ref p2, V.ref p4, V.ref p7, V.ref p12, V.ref p13, V.ref p16]) := g18
      walk_at "w"
      intro p19 _ ocp19 odp19 n19; generalize hX : upd _ p19 _ = M19; obtain ⟨s19, g19⟩ := U.newF n19 hX; clear hX
      walk_at "w"
      intro p20 n20; generalize hX : upd _ p20 _ = M20; obtain ⟨s20, g20⟩ := U.newF n20 hX; clear hX
      walk_at "w"
      intro p21 _ ocp21 odp21 n21; generalize hX : upd _ p21 _ = M21; obtain ⟨s21, g21⟩ := U.newF n21 hX; clear hX
      walk_at "w"
      intro p22 n22; generalize hX : upd _ p22 _ = M22; obtain ⟨s22, g22⟩ := U.newF n22 hX; clear hX
      walk_at "w"
      intro p23 _ ocp23 odp23 n23; generalize hX : upd _ p23 _ = M23; obtain ⟨s23, g23⟩ := U.newF n23 hX; clear hX
      walk_at "w"
      intro p24 _ ocp24 odp24 n24; generalize hX : upd _ p24 _ = M24; obtain ⟨s24, g24⟩ := U.newF n24 hX; clear hX
      walk_at "w"
      intro p25 _ ocp25 odp25 n25; generalize hX : upd _ p25 _ = M25; obtain ⟨s25, g25⟩ := U.newF n25 hX; clear hX
      walk_at "w"
      intro p26 _ ocp26 odp26 n26; generalize hX : upd _ p26 _ = M26; obtain ⟨s26, g26⟩ := U.newF n26 hX; clear hX
      walk_at "w"
      intro p27 n27; generalize hX : upd _ p27 _ = M27; obtain ⟨s27, g27⟩ := U.newF n27 hX; clear hX
      walk_at "w"
      refine Or.inr (Or.inr ⟨p18, p27, _, _, rfl, rfl, (s27 _ _ (s26 _ _ (s25 _ _ (s24 _ _ (s23 _ _ (s22 _ _ (s21 _ _ (s20 _ _ (s19 _ _ g18))))))))), g27, U.sz (by show 7 + 6 ≤ 100000; decide), fun p28 n28 => ?_⟩)
      generalize hX : upd _ p28 _ = M28
      obtain ⟨s28, g28⟩ := U.newF n28 hX
      clear hX
      have g28 : M28 p28 = some (.lst [V.ref p1, V.ref p2, V.ref p4, V.ref p7, V.ref p12, V.ref p13, V.ref p16, V.ref p19, V.ref p20, V.non, V.str "A", V.ref p23, V.ref p26]) := g28
      walk_at "w"
      intro p29 n29; generalize hX : upd _ p29 _ = M29; obtain ⟨s29, g29⟩ := U.newF n29 hX; clear hX
      walk_at "w"
      intro p30 n30
      walk_at "w"
      refine ⟨upd_same, [(.inr "a", V.ref p9)], rfl, (by show 1 ≤ 15; decide), ?_⟩
      generalize hX : upd (upd M29 p30 _) p30 _ = M30
      obtain ⟨s30, g30⟩ := newDD n30 hX
      clear hX
      walk_at "w"
      intro p31 x31 n31 m31 ne31
      walk_at "w"
      refine ⟨_, _, _, _, rfl, upd_same, by decide, by decide, by decide, ?_⟩
      rintro M31 hf31 gx31
      have s31 : Same M30 M31 := newIns n31 m31 ne31 hf31
      obtain ⟨fs31, g31⟩ := gx31
      refine ⟨rfl, ?_⟩
      walk_at "w"
      intro p32 x32 n32 m32 ne32
      walk_at "w"
      refine ⟨_, _, _, _, rfl, upd_same, by decide, by decide, by decide, ?_⟩
      rintro M32 hf32 gx32
      have s32 : Same M31 M32 := newIns n32 m32 ne32 hf32
      obtain ⟨fs32, g32⟩ := gx32
      refine ⟨rfl, ?_⟩
      walk_at "w"
      intro p33 _ ocp33 odp33 n33; generalize hX : upd _ p33 _ = M33; obtain ⟨s33, g33⟩ := U.newF n33 hX; clear hX
      walk_at "w"
      intro p34 n34; generalize hX : upd _ p34 _ = M34; obtain ⟨s34, g34⟩ := U.newF n34 hX; clear hX
      walk_at "w"
      refine Or.inr (Or.inr ⟨p28, p34, _, _, rfl, rfl, (s34 _ _ (s33 _ _ (s32 _ _ (s31 _ _ (s30 _ _ (s29 _ _ g28)))))), g34, U.sz (by show 13 + 4 ≤ 100000; decide), fun p35 n35 => ?_⟩)
      generalize hX : upd _ p35 _ = M35
      obtain ⟨s35, g35⟩ := U.newF n35 hX
      clear hX
      have g35 : M35 p35 = some (.lst [V.ref p1, V.ref p2, V.ref p4, V.ref p7, V.ref p12, V.ref p13, V.ref p16, V.ref p19, V.ref p20, V.non, V.str "A", V.ref p23, V.ref p26, V.ref p29, V.ref p30, V.ref p31, V.ref p33]) := g35
      walk_at "w"
      intro p36 _ ocp36 odp36 n36; generalize hX : upd _ p36 _ = M36; obtain ⟨s36, g36⟩ := U.newF n36 hX; clear hX
      walk_at "w"
      intro p37 n37; generalize hX : upd _ p37 _ = M37; obtain ⟨s37, g37⟩ := U.newF n37 hX; clear hX
      walk_at "w"
      intro p38 _ ocp38 odp38 n38; generalize hX : upd _ p38 _ = M38; obtain ⟨s38, g38⟩ := U.newF n38 hX; clear hX
      walk_at "w"
      intro p39 n39; generalize hX : upd _ p39 _ = M39; obtain ⟨s39, g39⟩ := U.newF n39 hX; clear hX
      walk_at "w"
      intro p40 _ ocp40 odp40 n40; generalize hX : upd _ p40 _ = M40; obtain ⟨s40, g40⟩ := U.newF n40 hX; clear hX
      walk_at "w"
      intro p41 n41; generalize hX : upd _ p41 _ = M41; obtain ⟨s41, g41⟩ := U.newF n41 hX; clear hX
      walk_at "w"
      refine Or.inr (Or.inr ⟨p35, p41, _, _, rfl, rfl, (s41 _ _ (s40 _ _ (s39 _ _ (s38 _ _ (s37 _ _ (s36 _ _ g35)))))), g41, U.sz (by show 17 + 2 ≤ 100000; decide), fun p42 n42 => ?_⟩)
      generalize hX : upd _ p42 _ = M42
      obtain ⟨s42, g42⟩ := U.newF n42 hX
      clear hX
      have g42 : M42 p42 = some (.lst [V.ref p1, V.ref p2, V.ref p4, V.ref p7, V.ref p12, V.ref p13, V.ref p16, V.ref p19, V.ref p20, V.non, V.str "A", V.ref p23, V.ref p26, V.ref p29, V.ref p30, V.ref p31, V.ref p33, V.ref p38, V.ref p40]) := g42
      walk_at "w"
      intro p43 _ ocp43 odp43 n43; generalize hX : upd _ p43 _ = M43; obtain ⟨s43, g43⟩ := U.newF n43 hX; clear hX
      walk_at "w"
      intro p44 _ ocp44 odp44 n44; generalize hX : upd _ p44 _ = M44; obtain ⟨s44, g44⟩ := U.newF n44 hX; clear hX
      walk_at "w"
      intro p45 _ ocp45 odp45 n45; generalize hX : upd _ p45 _ = M45; obtain ⟨s45, g45⟩ := U.newF n45 hX; clear hX
      walk_at "w"
      intro p46 n46; generalize hX : upd _ p46 _ = M46; obtain ⟨s46, g46⟩ := U.newF n46 hX; clear hX
      walk_at "w"
      intro p47 _ ocp47 odp47 n47; generalize hX : upd _ p47 _ = M47; obtain ⟨s47, g47⟩ := U.newF n47 hX; clear hX
      walk_at "w"
      intro p48 n48
      walk_at "w"
      refine ⟨upd_same, [(.inr "a", V.ref p9)], rfl, (by show 1 ≤ 15; decide), ?_⟩
      generalize hX : upd (upd M47 p48 _) p48 _ = M48
      obtain ⟨s48, g48⟩ := newDD n48 hX
      clear hX
      walk_at "w"
      intro p49 _ ocp49 odp49 n49; generalize hX : upd _ p49 _ = M49; obtain ⟨s49, g49⟩ := U.newF n49 hX; clear hX
      walk_at "w"
      intro p50 n50; generalize hX : upd _ p50 _ = M50; obtain ⟨s50, g50⟩ := U.newF n50 hX; clear hX
      walk_at "w"
      intro p51 n51; generalize hX : upd _ p51 _ = M51; obtain ⟨s51, g51⟩ := U.newF n51 hX; clear hX
      walk_at "w"
      refine Or.inr (Or.inr ⟨p42, p51, _, _, rfl, rfl, (s51 _ _ (s50 _ _ (s49 _ _ (s48 _ _ (s47 _ _ (s46 _ _ (s45 _ _ (s44 _ _ (s43 _ _ g42))))))))), g51, U.sz (by show 19 + 5 ≤ 100000; decide), fun p52 n52 => ?_⟩)
      generalize hX : upd _ p52 _ = M52
      obtain ⟨s52, g52⟩ := U.newF n52 hX
      clear hX
      have g52 : M52 p52 = some (.lst [V.ref p1, V.ref p2, V.ref p4, V.ref p7, V.ref p12, V.ref p13, V.ref p16, V.ref p19, V.ref p20, V.non, V.str "A", V.ref p23, V.ref p26, V.ref p29, V.ref p30, V.ref p31, V.ref p33, V.ref p38, V.ref p40, V.ref p43, V.ref p45, V.ref p47, V.ref p49, V.ref p50]) := g52
      walk_at "w"
      have e52 : Same M52 M52 := Same.refl _
      have e51 : Same M51 M52 := s52.trans e52
      have e50 : Same M50 M52 := s51.trans e51
      have e49 : Same M49 M52 := s50.trans e50
      have e48 : Same M48 M52 := s49.trans e49
      have e47 : Same M47 M52 := s48.trans e48
      have e46 : Same M46 M52 := s47.trans e47
      have e45 : Same M45 M52 := s46.trans e46
      have e44 : Same M44 M52 := s45.trans e45
      have e43 : Same M43 M52 := s44.trans e44
      have e42 : Same M42 M52 := s43.trans e43
      have e41 : Same M41 M52 := s42.trans e42
      have e40 : Same M40 M52 := s41.trans e41
      have e39 : Same M39 M52 := s40.trans e40
      have e38 : Same M38 M52 := s39.trans e39
      have e37 : Same M37 M52 := s38.trans e38
      have e36 : Same M36 M52 := s37.trans e37
      have e35 : Same M35 M52 := s36.trans e36
      have e34 : Same M34 M52 := s35.trans e35
      have e33 : Same M33 M52 := s34.trans e34
      have e32 : Same M32 M52 := s33.trans e33
      have e31 : Same M31 M52 := s32.trans e32
      have e30 : Same M30 M52 := s31.trans e31
      have e29 : Same M29 M52 := s30.trans e30
      have e28 : Same M28 M52 := s29.trans e29
      have e27 : Same M27 M52 := s28.trans e28
      have e26 : Same M26 M52 := s27.trans e27
      have e25 : Same M25 M52 := s26.trans e26
      have e24 : Same M24 M52 := s25.trans e25
      have e23 : Same M23 M52 := s24.trans e24
      have e22 : Same M22 M52 := s23.trans e23
      have e21 : Same M21 M52 := s22.trans e22
      have e20 : Same M20 M52 := s21.trans e21
      have e19 : Same M19 M52 := s20.trans e20
      have e18 : Same M18 M52 := s19.trans e19
      have e17 : Same M17 M52 := s18.trans e18
      have e16 : Same M16 M52 := s17.trans e17
      have e15 : Same M15 M52 := s16.trans e16
      have e14 : Same M14 M52 := s15.trans e15
      have e13 : Same M13 M52 := s14.trans e14
      have e12 : Same M12 M52 := s13.trans e13
      have e11 : Same M11 M52 := s12.trans e12
      have e10 : Same M10 M52 := s11.trans e11
      have e9 : Same M9 M52 := s10.trans e10
      have e8 : Same M8 M52 := s9.trans e9
      have e7 : Same M7 M52 := s8.trans e8
      have e6 : Same M6 M52 := s7.trans e7
      have e5 : Same M5 M52 := s6.trans e6
      have e4 : Same M4 M52 := s5.trans e5
      have e3 : Same M3 M52 := s4.trans e4
      have e2 : Same M2 M52 := s3.trans e3
      have e1 : Same M1 M52 := s2.trans e2
      have e0 : Same M0 M52 := s1.trans e1
      have i1 : Is K M52 (.tup [.str "name", .str "x"]) (.ref p1) := .mkF (e1 _ _ g1) ocp1 odp1 (.cons (.str _ (by decide +kernel)) (.cons (.str _ (by decide +kernel)) .nil))
      have i2 : Is K M52 (.tup [.str "fail", .str "gap"]) (.ref p2) := .mkF (e2 _ _ g2) ocp2 odp2 (.cons (.str _ (by decide +kernel)) (.cons (.str _ (by decide +kernel)) .nil))
      have i3 : Is K M52 (.tup [.str "name", .str "y"]) (.ref p3) := .mkF (e3 _ _ g3) ocp3 odp3 (.cons (.str _ (by decide +kernel)) (.cons (.str _ (by decide +kernel)) .nil))
      have i4 : Is K M52 (.tup [.str "fn", .str "x", .tup [.str "name", .str "y"]]) (.ref p4) := .mkF (e4 _ _ g4) ocp4 odp4 (.cons (.str _ (by decide +kernel)) (.cons (.str _ (by decide +kernel)) (.cons i3 .nil)))
      have i5 : Is K M52 (.tup []) (.ref p5) := .mkF (e5 _ _ g5) ocp5 odp5 .nil
      have i6 : Is K M52 (.tup [.str "record", .tup []]) (.ref p6) := .mkF (e6 _ _ g6) ocp6 odp6 (.cons (.str _ (by decide +kernel)) (.cons i5 .nil))
      have i7 : Is K M52 (.tup [.str "field", .tup [.str "record", .tup []], .str "a"]) (.ref p7) := .mkF (e7 _ _ g7) ocp7 odp7 (.cons (.str _ (by decide +kernel)) (.cons i6 (.cons (.str _ (by decide +kernel)) .nil)))
      have i8 : Is K M52 .oth (.ref p8) := .oth (.base (.lst (e8 _ _ g8))) kt_list
      have i9 : Is K M52 (.tup [.str "number", .int 1, .non]) (.ref p9) := .mkF (e9 _ _ g9) ocp9 odp9 (.cons (.str _ (by decide +kernel)) (.cons (.int _) (.cons .non .nil)))
      have i10 : Is K M52 (.tup [.str "name", .str "x"]) (.ref p10) := .mkF (e10 _ _ g10) ocp10 odp10 (.cons (.str _ (by decide +kernel)) (.cons (.str _ (by decide +kernel)) .nil))
      have i11 : Is K M52 (.tup [.str "fn", .str "x", .tup [.str "name", .str "x"]]) (.ref p11) := .mkF (e11 _ _ g11) ocp11 odp11 (.cons (.str _ (by decide +kernel)) (.cons (.str _ (by decide +kernel)) (.cons i10 .nil)))
      have i12 : Is K M52 (.tup [.str "call", .tup [.str "fn", .str "x", .tup [.str "name", .str "x"]], .tup [.str "number", .int 1, .non]]) (.ref p12) := .mkF (e12 _ _ g12) ocp12 odp12 (.cons (.str _ (by decide +kernel)) (.cons i11 (.cons i9 .nil)))
      have i13 : Is K M52 (.tup [.str "number", .int (-1), .non]) (.ref p13) := .mkF (e13 _ _ g13) ocp13 odp13 (.cons (.str _ (by decide +kernel)) (.cons (.int _) (.cons .non .nil)))
      have i14 : Is K M52 (.tup []) (.ref p14) := .mkF (e14 _ _ g14) ocp14 odp14 .nil
      have i15 : Is K M52 (.tup [.str "record", .tup []]) (.ref p15) := .mkF (e15 _ _ g15) ocp15 odp15 (.cons (.str _ (by decide +kernel)) (.cons i14 .nil))
      have i16 : Is K M52 (.tup [.str "tag", .str "a", .tup [.str "record", .tup []]]) (.ref p16) := .mkF (e16 _ _ g16) ocp16 odp16 (.cons (.str _ (by decide +kernel)) (.cons (.str _ (by decide +kernel)) (.cons i15 .nil)))
      have i17 : Is K M52 .oth (.ref p17) := .oth (.base (.lst (e17 _ _ g17))) kt_list
      have i18 : Is K M52 .oth (.ref p18) := .oth (.base (.lst (e18 _ _ g18))) kt_list
      have i19 : Is K M52 (.tup [.str "number", .bl true, .non]) (.ref p19) := .mkF (e19 _ _ g19) ocp19 odp19 (.cons (.str _ (by decide +kernel)) (.cons (.bl true) (.cons .non .nil)))
      have i20 : Is K M52 .oth (.ref p20) := .oth (.base (.lst (e20 _ _ g20))) kt_list
      have i21 : Is K M52 (.tup [.str "a", .tup [.str "number", .int 1, .non]]) (.ref p21) := .mkF (e21 _ _ g21) ocp21 odp21 (.cons (.str _ (by decide +kernel)) (.cons i9 .nil))
      have i22 : Is K M52 .oth (.ref p22) := .oth (.base (.lst (e22 _ _ g22))) kt_list
      have i23 : Is K M52 (.tup [.str "record", .oth]) (.ref p23) := .mkF (e23 _ _ g23) ocp23 odp23 (.cons (.str _ (by decide +kernel)) (.cons i22 .nil))
      have i24 : Is K M52 (.tup []) (.ref p24) := .mkF (e24 _ _ g24) ocp24 odp24 .nil
      have i25 : Is K M52 (.tup [.str "num", .tup []]) (.ref p25) := .mkF (e25 _ _ g25) ocp25 odp25 (.cons (.str _ (by decide +kernel)) (.cons i24 .nil))
      have i26 : Is K M52 (.tup [.str "told", .tup [.str "number", .int 1, .non], .tup [.str "num", .tup []]]) (.ref p26) := .mkF (e26 _ _ g26) ocp26 odp26 (.cons (.str _ (by decide +kernel)) (.cons i9 (.cons i25 .nil)))
      have i27 : Is K M52 .oth (.ref p27) := .oth (.base (.lst (e27 _ _ g27))) kt_list
      have i28 : Is K M52 .oth (.ref p28) := .oth (.base (.lst (e28 _ _ g28))) kt_list
      have i29 : Is K M52 .oth (.ref p29) := .oth (.base (.dK (e29 _ _ g29))) kt_dict
      have i30 : Is K M52 .oth (.ref p30) := .oth (.base (.dK (e30 _ _ g30))) kt_dict
      have i31 : Is K M52 .oth (.ref p31) := .oth (.base (.ins (e31 _ _ g31) T.cls_Ratio T.ca_Ratio T.cn T.ct T.cm_Ratio)) ⟨T.ko_Ratio_tuple, T.ko_Ratio_str, T.ko_Ratio_int, T.ko_Ratio_bool⟩
      have i32 : Is K M52 .oth (.ref p32) := .oth (.base (.ins (e32 _ _ g32) T.cls_Ratio T.ca_Ratio T.cn T.ct T.cm_Ratio)) ⟨T.ko_Ratio_tuple, T.ko_Ratio_str, T.ko_Ratio_int, T.ko_Ratio_bool⟩
      have i33 : Is K M52 (.tup [.str "number", .oth, .non]) (.ref p33) := .mkF (e33 _ _ g33) ocp33 odp33 (.cons (.str _ (by decide +kernel)) (.cons i32 (.cons .non .nil)))
      have i34 : Is K M52 .oth (.ref p34) := .oth (.base (.lst (e34 _ _ g34))) kt_list
      have i35 : Is K M52 .oth (.ref p35) := .oth (.base (.lst (e35 _ _ g35))) kt_list
      have i36 : Is K M52 (.tup [.str "m", .int 1]) (.ref p36) := .mkF (e36 _ _ g36) ocp36 odp36 (.cons (.str _ (by decide +kernel)) (.cons (.int _) .nil))
      have i37 : Is K M52 .oth (.ref p37) := .oth (.base (.lst (e37 _ _ g37))) kt_list
      have i38 : Is K M52 (.tup [.str "number", .int 1, .oth]) (.ref p38) := .mkF (e38 _ _ g38) ocp38 odp38 (.cons (.str _ (by decide +kernel)) (.cons (.int _) (.cons i37 .nil)))
      have i39 : Is K M52 .oth (.ref p39) := .oth (.base (.lst (e39 _ _ g39))) kt_list
      have i40 : Is K M52 (.tup [.str "fn", .oth, .tup [.str "number", .int 1, .non]]) (.ref p40) := .mkF (e40 _ _ g40) ocp40 odp40 (.cons (.str _ (by decide +kernel)) (.cons i39 (.cons i9 .nil)))
      have i41 : Is K M52 .oth (.ref p41) := .oth (.base (.lst (e41 _ _ g41))) kt_list
      have i42 : Is K M52 .oth (.ref p42) := .oth (.base (.lst (e42 _ _ g42))) kt_list
      have i43 : Is K M52 (.tup [.str "fn", .int 1, .tup [.str "number", .int 1, .non]]) (.ref p43) := .mkF (e43 _ _ g43) ocp43 odp43 (.cons (.str _ (by decide +kernel)) (.cons (.int _) (.cons i9 .nil)))
      have i44 : Is K M52 (.tup [.str "A"]) (.ref p44) := .mkF (e44 _ _ g44) ocp44 odp44 (.cons (.str _ (by decide +kernel)) .nil)
      have i45 : Is K M52 (.tup [.str "tag", .tup [.str "A"], .tup [.str "number", .int 1, .non]]) (.ref p45) := .mkF (e45 _ _ g45) ocp45 odp45 (.cons (.str _ (by decide +kernel)) (.cons i44 (.cons i9 .nil)))
      have i46 : Is K M52 .oth (.ref p46) := .oth (.base (.dK (e46 _ _ g46))) kt_dict
      have i47 : Is K M52 (.tup [.str "tag", .oth, .tup [.str "number", .int 1, .non]]) (.ref p47) := .mkF (e47 _ _ g47) ocp47 odp47 (.cons (.str _ (by decide +kernel)) (.cons i46 (.cons i9 .nil)))
      have i48 : Is K M52 .oth (.ref p48) := .oth (.base (.dK (e48 _ _ g48))) kt_dict
      have i49 : Is K M52 (.tup [.str "record", .oth]) (.ref p49) := .mkF (e49 _ _ g49) ocp49 odp49 (.cons (.str _ (by decide +kernel)) (.cons i48 .nil))
      have i50 : Is K M52 .oth (.ref p50) := .oth (.base (.lst (e50 _ _ g50))) kt_list
      have i51 : Is K M52 .oth (.ref p51) := .oth (.base (.lst (e51 _ _ g51))) kt_list
      have i52 : Is K M52 .oth (.ref p52) := .oth (.base (.lst (e52 _ _ g52))) kt_list
      have iall : IsAll K M52 oddM [V.ref p1, V.ref p2, V.ref p4, V.ref p7, V.ref p12, V.ref p13, V.ref p16, V.ref p19, V.ref p20, V.non, V.str "A", V.ref p23, V.ref p26, V.ref p29, V.ref p30, V.ref p31, V.ref p33, V.ref p38, V.ref p40, V.ref p43, V.ref p45, V.ref p47, V.ref p49, V.ref p50] := (.cons i1 (.cons i2 (.cons i4 (.cons i7 (.cons i12 (.cons i13 (.cons i16 (.cons i19 (.cons i20 (.cons .non (.cons (.str _ (by decide +kernel)) (.cons i23 (.cons i26 (.cons i29 (.cons i30 (.cons i31 (.cons i33 (.cons i38 (.cons i40 (.cons i43 (.cons i45 (.cons i47 (.cons i49 (.cons i50 .nil))))))))))))))))))))))))
      have gall : M52 p52 = some (.lst [V.ref p1, V.ref p2, V.ref p4, V.ref p7, V.ref p12, V.ref p13, V.ref p16, V.ref p19, V.ref p20, V.non, V.str "A", V.ref p23, V.ref p26, V.ref p29, V.ref p30, V.ref p31, V.ref p33, V.ref p38, V.ref p40, V.ref p43, V.ref p45, V.ref p47, V.ref p49, V.ref p50]) := e52 _ _ g52
      have f0 : Same M0 M0 := Same.refl _
      have f1 : Same M0 M1 := f0.trans s1
      have f2 : Same M0 M2 := f1.trans s2
      have f3 : Same M0 M3 := f2.trans s3
      have f4 : Same M0 M4 := f3.trans s4
      have f5 : Same M0 M5 := f4.trans s5
      have f6 : Same M0 M6 := f5.trans s6
      have f7 : Same M0 M7 := f6.trans s7
      have f8 : Same M0 M8 := f7.trans s8
      have f9 : Same M0 M9 := f8.trans s9
      have f10 : Same M0 M10 := f9.trans s10
      have f11 : Same M0 M11 := f10.trans s11
      have f12 : Same M0 M12 := f11.trans s12
      have f13 : Same M0 M13 := f12.trans s13
      have f14 : Same M0 M14 := f13.trans s14
      have f15 : Same M0 M15 := f14.trans s15
      have f16 : Same M0 M16 := f15.trans s16
      have f17 : Same M0 M17 := f16.trans s17
      have f18 : Same M0 M18 := f17.trans s18
      have f19 : Same M0 M19 := f18.trans s19
      have f20 : Same M0 M20 := f19.trans s20
      have f21 : Same M0 M21 := f20.trans s21
      have f22 : Same M0 M22 := f21.trans s22
      have f23 : Same M0 M23 := f22.trans s23
      have f24 : Same M0 M24 := f23.trans s24
      have f25 : Same M0 M25 := f24.trans s25
      have f26 : Same M0 M26 := f25.trans s26
      have f27 : Same M0 M27 := f26.trans s27
      have f28 : Same M0 M28 := f27.trans s28
      have f29 : Same M0 M29 := f28.trans s29
      have f30 : Same M0 M30 := f29.trans s30
      have f31 : Same M0 M31 := f30.trans s31
      have f32 : Same M0 M32 := f31.trans s32
      have f33 : Same M0 M33 := f32.trans s33
      have f34 : Same M0 M34 := f33.trans s34
      have f35 : Same M0 M35 := f34.trans s35
      have f36 : Same M0 M36 := f35.trans s36
      have f37 : Same M0 M37 := f36.trans s37
      have f38 : Same M0 M38 := f37.trans s38
      have f39 : Same M0 M39 := f38.trans s39
      have f40 : Same M0 M40 := f39.trans s40
      have f41 : Same M0 M41 := f40.trans s41
      have f42 : Same M0 M42 := f41.trans s42
      have f43 : Same M0 M43 := f42.trans s43
      have f44 : Same M0 M44 := f43.trans s44
      have f45 : Same M0 M45 := f44.trans s45
      have f46 : Same M0 M46 := f45.trans s46
      have f47 : Same M0 M47 := f46.trans s47
      have f48 : Same M0 M48 := f47.trans s48
      have f49 : Same M0 M49 := f48.trans s49
      have f50 : Same M0 M50 := f49.trans s50
      have f51 : Same M0 M51 := f50.trans s51
      have pz : p52 ≠ p := pool_ne (pl.same f51) n52
      have plN : PoolAt M52 p := pl.same e0
      clear f0 f1 f2 f3 f4 f5 f6 f7 f8 f9 f10 f11 f12 f13 f14 f15 f16 f17 f18 f19 f20 f21 f22 f23 f24 f25 f26 f27 f28 f29 f30 f31 f32 f33 f34 f35 f36 f37 f38 f39 f40 f41 f42 f43 f44 f45 f46 f47 f48 f49 f50 f51
      refine U.ifDi (fun h0 => ?_) (fun h0 => ?_)
      · walk_at "w"
        intro j N1 hj pl1 t1
        have L1 := Lst.pool t1 plN pl1
        obtain ⟨u, hu⟩ : ∃ u, oddM[j]? = some u := ⟨_, List.getElem?_eq_getElem (show j < 24 by omega)⟩
        obtain ⟨uv, huv, hui⟩ := (IsAll.lst L1 iall).nth' hu
        refine Or.inl ⟨_, _, _, _, rfl, rfl, SqL.of (t1 _ _ pz gall), U.atN j rfl huv, ?_⟩
        exact k _ _ N1 (.leaf (List.mem_of_getElem? hu)) hui pl1 ((U.SameBut.of e0).trans t1)
      · walk_at "w"
        obtain ⟨d', rfl⟩ : ∃ d', d = d' + 1 := ⟨d - 1, by omega⟩
        refine spOD_mk (d := d') (by omega) (congrArg (fun i => [V.ref p, V.int i]) (show ((d' + 1 : Nat) : Int) - 1 = (d' : Int) by omega)) plN fun x v N1 hx ix pl1 t1 => ?_
        walk_at "w"
        intro j N2 hj pl2 t2
        walk_at "w"
        have ix2 := ix.lst (Lst.pool t2 pl1 pl2)
        have b2 : U.SameBut p M0 N2 := ((U.SameBut.of e0).trans t1).trans t2
        refine U.ifDi (fun h1 => ?_) (fun h1 => ?_)
        · walk_at "w"
          intro q1 _ ocq1 odq1 w1; generalize hX : upd _ q1 _ = N3; obtain ⟨t3, z1⟩ := U.newF w1 hX; clear hX
          exact k _ _ N3 (.tag hx) (.mkF z1 ocq1 odq1 (.cons (.str _ (by decide +kernel)) (.cons (.str _ (by decide +kernel)) (.cons (ix2.keep t3) .nil)))) (pl2.same t3) (b2.trans (.of t3))
        · walk_at "w"
          intro t tv N3 ht it pl3 t3
          have ix3 := ix2.lst (Lst.pool t3 pl2 pl3)
          walk_at "w"
          intro q1 _ ocq1 odq1 w1; generalize hX : upd _ q1 _ = N4; obtain ⟨t4, z1⟩ := U.newF w1 hX; clear hX
          walk_at "w"
          intro q2 _ ocq2 odq2 w2; generalize hX : upd _ q2 _ = N5; obtain ⟨t5, z2⟩ := U.newF w2 hX; clear hX
          walk_at "w"
          intro q3 _ ocq3 odq3 w3; generalize hX : upd _ q3 _ = N6; obtain ⟨t6, z3⟩ := U.newF w3 hX; clear hX
          walk_at "w"
          intro q4 _ ocq4 odq4 w4; generalize hX : upd _ q4 _ = N7; obtain ⟨t7, z4⟩ := U.newF w4 hX; clear hX
          have it4 := it.keep t4
          have x4 : Is K N4 (.tup [.str "a", t]) (.ref q1) := .mkF z1 ocq1 odq1 (.cons (.str _ (by decide +kernel)) (.cons it4 .nil))
          have x5 : Is K N5 (.tup [.str "b", x]) (.ref q2) := .mkF z2 ocq2 odq2 (.cons (.str _ (by decide +kernel)) (.cons ((ix3.keep t4).keep t5) .nil))
          have x6 : Is K N6 (.tup [.tup [.str "a", t], .tup [.str "b", x]]) (.ref q3) := .mkF z3 ocq3 odq3 (.cons ((x4.keep t5).keep t6) (.cons (x5.keep t6) .nil))
          exact k _ _ N7 (.record ht hx) (.mkF z4 ocq4 odq4 (.cons (.str _ (by decide +kernel)) (.cons (x6.keep t7) .nil))) ((((pl3.same t4).same t5).same t6).same t7) ((b2.trans t3).trans (.of (((t4.trans t5).trans t6).trans t7)))
end
section
variable {P : Program} {w : World} {K : PySem.W.Frag} {mg : Str → Option Value} {base : Heap} {A : Ad}
theorem ok_law_odd_of (T : Top w K mg A) : FnOk P w K mg base CX0 10 A.a_law_odd_of A.fd_law_odd_of ["pool", "deep"] (spOD K 3) := ok_oddR T 3
theorem ok_law_pattern_of (T : Top w K mg A) : FnOk P w K mg base CX0 7 A.a_law_pattern_of A.fd_law_pattern_of ["pool", "tree", "words"] (spPP K 5) := ok_patR T 5
theorem ok_law_takes_of (T : Top w K mg A) : FnOk P w K mg base CX0 6 A.a_law_takes_of A.fd_law_takes_of ["pattern", "value"] (spTk K 4) := ok_takesR T 4
def unitU : PV := .tup [.tup [.str "m", .int 1]]
def unitB : PV → Bool
  | .non => true
  | .tup _ => true
  | _ => false
theorem ok_is_unit (T : Top w K mg A) : FnOk P w K mg base CX0 7 A.a_is_unit A.fd_is_unit ["value"] (fun vs H Q _ => ∃ x v, vs = [v] ∧ Is K H x v ∧ (x = .non ∨ x = unitU ∨ x = .oth) ∧ ∀ H', Same H H' → Q (.bl (unitB x)) H') := by
  refine T.F_is_unit.ok sc_is_unit (fun vs H Q E h => ?_) (fun cdv A' outer s H vs Q E hr h => ?_)
  · obtain ⟨x, v, rfl, _⟩ := h
    rfl
  · obtain ⟨x, v, rfl, hx, hd, k⟩ := h
    refine ⟨_, (pss_cons (ps_if (pt_cmpR op_isN (pv 0) pe_non (nomark _)) (pss_one (ps_ret pe_bl)) pss_nil)
    (pss_one (ps_ret (pe_and (pe_call (ok_is_measure T) (hr.mono (by decide)) rfl T.m_is_measure T.F_is_measure.kp T.b_is_measure .nil pass0 (pa_cons (pv 0) pa_nil)) (pe_and (pe_cmpR (op_neE (Nat.lt_of_le_of_lt (Nat.le_add_right _ 64) hr.units)) (pv 0) (pe_tupF pa_nil) (nomark _)) (pe_one (pe_not (pe_callB (cr_any rfl) (by rfl) T.n_any (by decide +kernel) (pa_cons (pe_lc (own := [("factor", 1), ("_", 2)]) rfl sc_is_unit.nd (pi_tup (pv 0)) (blkOk_by (own := [("factor", 1), ("_", 2)]) (N := nm_is_unit) (sc := defScope s_is_unit) (by decide +kernel)) (fun _ _ _ _ _ => (pg_tupK (K := K) (n := 2) rfl rfl (pgs_cons (pg_name (i := 1) sc_is_unit.nd rfl (Or.inl rfl)) (pgs_cons (pg_name (i := 2) sc_is_unit.nd rfl (Or.inl rfl)) pgs_nil)))) (fun _ _ _ _ _ => pts_nil) (fun _ _ _ _ _ => (pe_call (ok_is_name T) (hr.mono (by decide)) rfl T.m_is_name T.F_is_name.kp T.b_is_name .nil pass0 (pa_cons (pv 1) pa_nil)))) pa_nil))))))))), ?_⟩
    have hu : measB unitU = true := by decide +kernel
    rcases hd with rfl | rfl | rfl
    · cases hx
      walk_at "w"
      exact k H (Same.refl _)
    · have hx0 := hx
      unfold unitU at hx
      cases hx with
      | @tup p _ vs tp ha =>
        walk_at "w"
        refine ⟨unitU, _, rfl, hx0, fun H1 s1 => ?_⟩
        rw [hu]
        walk_at "w"
        intro q _ ocq odq nq; generalize hX : upd _ q _ = H2; obtain ⟨s2, g2⟩ := U.newF nq hX; clear hX
        have tp2 := tp.keep (s1.trans s2)
        have ha2 := IsAll.keep (s1.trans s2) ha
        refine ⟨p, q, _, rfl, rfl, tp2.1, .inl (.inr ⟨_, g2⟩), ?_⟩
        cases ha2 with
        | @cons _ v0 _ _ h0 ht =>
          cases ht
          cases h0 with
          | @tup p0 _ vs0 tp0 ha0 =>
            cases ha0 with
            | cons hf ha0 =>
              cases hf
              rename_i hfl
              cases ha0 with
              | cons hn ha0 =>
                cases hn
                cases ha0
                walk_at "w"
                refine ⟨⟨_, tp2.1⟩, fun D nD => ?_⟩
                refine lc_tup (xs := [V.ref p0]) (fun i Hj => ∃ bs : List Bool, Hj D = some (.lst (bs.map V.bl)) ∧ bs.length = i ∧ bs.any id = false ∧ Same H2 Hj) ⟨[], upd_same, rfl, rfl, same_new nD⟩ (fun i Hj _ st => ?_) ?_ ?_
                · obtain ⟨_, _, _, _, sj⟩ := st
                  exact (tp2.keep sj).1
                · rintro i x Hj hx ⟨bs, gD, hl, hb, sj⟩
                  obtain ⟨rfl, rfl⟩ : i = 0 ∧ x = V.ref p0 := by
                    cases i with
                    | zero => exact ⟨rfl, by simpa using hx.symm⟩
                    | succ n => simp at hx
                  refine ⟨p0, _, rfl, (tp0.keep sj).1, rfl, ?_⟩
                  walk_at "w"
                  refine ⟨rfl, ?_⟩
                  walk_at "w"
                  intro H4 s4
                  refine ⟨_, s4 _ _ gD, U.szl (by rw [List.length_map]; omega), bs ++ [isNm "m"], ?_, ?_, ?_, ?_⟩
                  · rw [upd_same, List.map_append]
                    rfl
                  · rw [List.length_append, hl] <;> rfl
                  · rw [List.any_append, hb]
                    decide +kernel
                  · exact fun c o e => by rw [upd_ne (fun z => by rw [z, nD] at e; cases e)]; exact s4 _ _ (sj c o e)
                · rintro Hj ⟨bs, gD, hl, hb, sj⟩
                  walk_at "w"
                  refine ⟨D, bs, rfl, SqL.of gD, ?_⟩
                  rw [hb]
                  walk_at "w"
                  exact k Hj ((s1.trans s2).trans sj)
    · have hx0 := hx
      cases hx with
      | @oth p t h1 h2 =>
        walk_at "w"
        refine ⟨.oth, _, rfl, hx0, fun H1 s1 => ?_⟩
        walk_at "w"
        exact k H1 s1
end
section
variable {P : Program} {w : World} {K : PySem.W.Frag} {mg : Str → Option Value} {base : Heap} {A : Ad}
/-- entries with these labels -/
inductive Ents : List PV → List Str → Prop
  | nil : Ents [] []
  | cons {l : Str} {y : PV} {es : List PV} {ls : List Str} (h : l ∈ labsT) (t : Ents es ls) : Ents (.tup [.str l, y] :: es) (l :: ls)
theorem Ents.nth : ∀ {es : List PV} {ls : List Str}, Ents es ls → ∀ {i : Nat} {x : PV}, es[i]? = some x → ∃ l y, x = .tup [.str l, y] ∧ ls[i]? = some l ∧ l ∈ labsT
  | _, _, .cons (l := l) (y := y) h t, 0, x, q => by
    simp at q
    exact ⟨l, y, q.symm, rfl, h⟩
  | _, _, .cons h t, i + 1, x, q => by
    simp at q
    obtain ⟨l, e, h1, h2, h3⟩ := t.nth q
    exact ⟨l, e, h1, by simpa using h2, h3⟩
theorem labs_word : ∀ l ∈ labsT, isW l = true := by decide +kernel
theorem ok_are_entries (T : Top w K mg A) : FnOk P w K mg base CX0 4 A.a_are_entries A.fd_are_entries ["value"] (fun vs H Q _ => ∃ x v, vs = [v] ∧ Is K H x v ∧ (x = .oth ∨ ∃ es ls, x = .tup es ∧ Ents es ls ∧ ls.Nodup ∧ ls.length ≤ 10) ∧ ∀ H', Same H H' → Q (.bl x.isTup) H') := by
  refine T.F_are_entries.ok sc_are_entries (fun vs H Q E h => ?_) (fun cdv A' outer s H vs Q E hr h => ?_)
  · obtain ⟨x, v, rfl, _⟩ := h
    rfl
  · obtain ⟨x, v, rfl, hx, hd, k⟩ := h
    refine ⟨_, (pss_cons (ps_if (pt_not (pt_val (pe_callB call_isi (by rfl) T.n_isinstance (by decide +kernel) (pa_cons (pv 0) (pa_cons (pe_bltn (v := .ty "tuple") (by rfl) T.n_tuple (by decide +kernel) rfl) pa_nil))))) (pss_one (ps_ret pe_bl)) pss_nil)
    (pss_cons (ps_set (i := 1) sc_are_entries.nd rfl (Or.inl rfl) (pe_callTy0 cr_set0K (by rfl) T.n_set (by decide +kernel)))
    (pss_cons (ps_for PassesOwn.never rfl (pi_tup (pv 0)) (pg_name (i := 2) sc_are_entries.nd rfl (Or.inl rfl)) (pss_cons (ps_if (PW.pt (pw_or (pt_not (pt_val (pe_callB call_isi (by rfl) T.n_isinstance (by decide +kernel) (pa_cons (pv 2) (pa_cons (pe_bltn (v := .ty "tuple") (by rfl) T.n_tuple (by decide +kernel) rfl) pa_nil))))) (pw_or (pt_cmpR (U.uNe (K := K) rfl hr.units) (pe_callB (U.uLen (K := K) rfl) (by rfl) T.n_len (by decide +kernel) (pa_cons (pv 2) pa_nil)) pe_int (nomark _)) (pw_or (pt_not (pt_val (pe_call (ok_is_word T) (hr.mono (by decide)) rfl T.m_is_word T.F_is_word.kp T.b_is_word .nil pass0 (pa_cons (pe_ix (U.uIx (K := K) rfl) (pv 2) pe_int (fun _ _ => rfl)) pa_nil)))) (pw_or1 (pt_cmpR or_sinK (pe_ix (U.uIx (K := K) rfl) (pv 2) pe_int (fun _ _ => rfl)) (pv 1) rfl)))))) (pss_one (ps_ret pe_bl)) pss_nil)
    (pss_one (ps_expr (pe_saddK (pv 1) (pa_cons (pe_ix (U.uIx (K := K) rfl) (pv 2) pe_int (fun _ _ => rfl)) pa_nil))))))
    (pss_one (ps_ret pe_bl))))), ?_⟩
    walk_at "w"
    rcases hd with rfl | ⟨es, ls, rfl, he, hn, hl⟩
    · have hx0 := hx
      obtain ⟨t, ty, kt⟩ := hx.ty
      cases hx with
      | @oth p t h1 h2 =>
        refine ⟨_, _, _, _, _, rfl, .ty _, ty, kt.1, ?_⟩
        walk_at "w"
        exact k H (Same.refl _)
    · obtain ⟨t, ty, kt⟩ := hx.ty
      cases hx with
      | @tup p _ vs tp ha =>
        refine ⟨_, _, _, _, _, rfl, .ty _, ty, kt.1, ?_⟩
        walk_at "w"
        intro D nD
        generalize hX : upd _ D _ = H1
        obtain ⟨s1, g1⟩ := U.newF nD hX
        clear hX
        walk_at "w"
        refine ⟨⟨_, (tp.keep s1).1⟩, ?_⟩
        refine for_tup (K := K) (a := p) (xs := vs) (fun i σ Hj => ∃ (o2 : Option V) (S : Key → Bool) (n : Nat), σ = [some (.ref p), some (.ref D), o2] ∧ U.SameBut D H1 Hj ∧ Hj D = some (SetK P w D S n) ∧ n ≤ i ∧ ∀ l : Str, S (.inr l) = decide (l ∈ ls.take i))
          ⟨_, _, _, rfl, U.SameBut.refl _ _, g1, Nat.le_refl _, fun l => by simp⟩ (fun i σ Hj _ st => ?_) ?_ ?_
        · obtain ⟨_, _, _, _, sj, _⟩ := st
          exact (tp.keep (U.Same.but s1 sj nD)).1
        · rintro i v σ Hj hv ⟨o2, S, n, rfl, sj, gj, hnn, hS⟩
          have sH : Same H Hj := U.Same.but s1 sj nD
          obtain ⟨x, hx, isx⟩ := ha.nth hv
          have isx := isx.keep sH
          obtain ⟨l, y, rfl, hli, hlab⟩ := he.nth hx
          obtain ⟨t2, ty2, kt2⟩ := isx.ty
          cases isx with
          | @tup p2 _ us tp2 ha2 =>
            walk_at "w"
            refine ⟨_, _, _, _, _, rfl, .ty _, ty2, kt2.1, ?_⟩
            cases ha2 with
            | cons h0 ha2 =>
              cases h0
              cases ha2 with
              | cons h1 ha2 =>
                cases ha2
                walk_at "w"
                refine Or.inr ⟨_, _, rfl, Or.inr tp2.1, ?_⟩
                walk_at "w"
                refine Or.inr (Or.inl ⟨_, _, _, _, rfl, rfl, tp2.1, U.atN 0 rfl rfl, ?_⟩)
                walk_at "w"
                refine Or.inl ⟨l, rfl, by have := labs_len l hlab; omega, fun H2 s2 => ?_⟩
                rw [labs_word l hlab]
                walk_at "w"
                refine Or.inr (Or.inl ⟨_, _, _, _, rfl, rfl, (tp2.keep s2).1, U.atN 0 rfl rfl, ?_⟩)
                walk_at "w"
                have gj2 := s2 _ _ gj
                refine ⟨.inr l, D, S, n, rfl, rfl, gj2, ?_⟩
                have hil : i < ls.length := (List.getElem?_eq_some_iff.mp hli).1
                have hni : ¬ l ∈ ls.take i := fun q => by
                  obtain ⟨j, hj⟩ := List.mem_iff_getElem?.mp q
                  have hji : j < i := by
                    have := (List.getElem?_eq_some_iff.mp hj).1
                    rw [List.length_take] at this
                    omega
                  rw [List.getElem?_take_of_lt hji] at hj
                  have := (List.getElem?_inj hil hn).mp (hli.trans hj.symm)
                  omega
                rw [hS l, decide_eq_false hni]
                walk_at "w"
                refine ⟨⟨D, S, n, rfl, gj2⟩, ?_⟩
                walk_at "w"
                refine Or.inr (Or.inl ⟨_, _, _, _, rfl, rfl, (tp2.keep s2).1, U.atN 0 rfl rfl, ?_⟩)
                walk_at "w"
                refine ⟨D, .inr l, S, n, rfl, rfl, gj2, Nat.lt_of_le_of_lt (show n + 1 ≤ 11 by omega) (by decide), ?_⟩
                refine ⟨_, _, _, rfl, (sj.trans (.of s2)).upd, upd_same, ?_, fun l2 => ?_⟩
                · split <;> omega
                · show (S (.inr l2) || decide ((Sum.inr l2 : Key) = Sum.inr l)) = _
                  rw [hS l2, List.take_add_one, hli, ← Bool.decide_or]
                  refine decide_eq_decide.mpr ?_
                  rw [List.mem_append]
                  constructor
                  · rintro (q | q)
                    · exact .inl q
                    · exact .inr (by rw [Sum.inr.inj q]; exact List.mem_cons_self ..)
                  · rintro (q | q)
                    · exact .inl q
                    · exact .inr (congrArg Sum.inr (List.mem_singleton.mp q))
        · rintro σ Hj ⟨o2, S, n, rfl, sj, gj, hnn, hS⟩
          walk_at "w"
          exact k Hj (U.Same.but s1 sj nD)
end
section
open PySem PySem.Spec PyProof.Rows
set_option maxRecDepth 8000 in
/-- a list is extended by a tuple, whatever fields the tuple's object has -/
theorem ext_tup (l b : Addr) (xs ys : Array Value) (n m : Nat) (dd : Option Addr) (sl : Array (Option Value))
    (short : ¬(!xs.isEmpty && Builtin.List.listTooLong (xs.size + ys.size)) = true) (small : xs.size ≤ sizeLine) (both : xs.size + ys.size ≤ sizeLine + 1) :
    PySem.Meets (Builtin.«list.extend» ⟨[.ref l, .ref b], []⟩) (fun _ R s =>
      s.heap.get? l = some { cls := .type "list", data := .seq xs n } ∧
      s.heap.get? b = some { cls := .type "tuple", dict := dd, data := .seq ys m, slots := sl } ∧
      R (.ok (.ret .none)) { s with heap := s.heap.update l (Obj.mapSeq (· ++ ys)) }) := by
  refine .of_wp fun prog w A R s q => ?_
  obtain ⟨h0, g0, d0, t0, o0⟩ := s
  obtain ⟨onL, onB, q⟩ := q
  have k1 := PySem.AutoSeq1.sub_list_list
  have k2 := PySem.AutoSeq1.sub_tuple_tuple
  have k3 := PySem.AutoSeq1.sub_tuple_list
  have k4 := PySem.AutoSeq1.sub_list_tuple
  have fit : (xs ++ ys).size ≤ sizeLine + 1 := by
    rw [Array.size_append]
    exact both
  wp_walk using (wpAny_updateSeq onL rfl (hz := small) (_hz' := fit)), PySem.AutoSeq1.wpAny_loadPart' onL, PySem.AutoSeq1.wpAny_loadPart' onB
  exact ⟨_, rfl, q⟩
/-- xs.extend(t): t a list or a tuple -/
def rExtU (K : PySem.W.Frag) : V → List V → Hp → VK → Prop := fun x vs H Q => ∃ l b xs zs, x = .ref l ∧ vs = [.ref b] ∧ H l = some (.lst xs) ∧ (H b = some (.lst zs) ∨ SqT K H b zs) ∧ xs.length + zs.length ≤ sizeLine ∧ Q .non (upd H l (.lst (xs ++ zs)))
theorem mt_extU {X : Cx} {K : PySem.W.Frag} (hK : X.K = K) : MtM X "list.extend" (rExtU K) := by
  subst hK
  intro pins s σ H x vs v us Q I rx rv h
  obtain ⟨l, b, xs, zs, ex, ev, hH, hb, hz, q⟩ := h
  rcases hb with hb | hb
  · exact mt_extend pins s σ H x vs v us Q I rx rv ⟨l, b, xs, zs, ex, ev, hH, hb, hz, q⟩
  · subst ex ev
    cases rx
    obtain ⟨y, rfl, ry⟩ := rv.one
    cases ry
    obtain ⟨_, as, na, ra, la, ea⟩ := I.lstM hH
    obtain ⟨bs, rb, tb, lb⟩ := I.tuple hb
    have na1 := ra.length
    have nb1 := rb.length
    obtain ⟨⟨c0, d0, x0, w0⟩, eb, c1, nb, x1⟩ := id tb
    simp only at c1 x1
    subst c1 x1
    have both : as.toArray.size + bs.toArray.size ≤ sizeLine := by
      show as.length + bs.length ≤ sizeLine
      omega
    have short : ¬(!as.toArray.isEmpty && Builtin.List.listTooLong (as.toArray.size + bs.toArray.size)) = true := fun q => by
      rw [notLongL both, Bool.and_false] at q
      cases q
    have M := ext_tup l b as.toArray bs.toArray na nb d0 w0 short (by show as.length ≤ sizeLine; omega) (Nat.le_succ_of_le both)
    refine call_meets PySem.F.slot_list_extend ⟨_, ea, rfl⟩
      PySem.F.entry_list_extend (PySem.F.args_list_extend_2 _ _) M ⟨ea, eb, ?_⟩
    refine ⟨.non, _, I.lset (its' := as ++ bs) (t' := s.toks) hH ea ?_ (ra.append rb) ?_, rfl, q⟩
    · simp
    · rw [List.length_append]
      omega
end
section
variable {P : Program} {w : World} {K : PySem.W.Frag} {mg : Str → Option Value} {base : Heap} {A : Ad}
def numK : PV := .tup [.str "num", .tup []]
def spNo : Sp := fun _ _ _ _ => False
theorem ok_row_kinds (T : Top w K mg A) : FnOk P w K mg base CX0 4 A.a_row_kinds A.fd_row_kinds ["head", "value"] spNo :=
  T.F_row_kinds.ok sc_row_kinds (fun vs H Q E h => False.elim h) (fun cdv A' outer s H vs Q E hr h => False.elim h)
theorem ok_are_rows (T : Top w K mg A) : FnOk P w K mg base CX0 1 A.a_are_rows A.fd_are_rows ["value"] spNo :=
  T.F_are_rows.ok sc_are_rows (fun vs H Q E h => False.elim h) (fun cdv A' outer s H vs Q E hr h => False.elim h)
theorem ok_inner_values (T : Top w K mg A) : FnOk P w K mg base CX0 7 A.a_inner_values A.fd_inner_values ["value"] (fun vs H Q _ => ∃ v, vs = [v] ∧ Is K H numK v ∧ ∀ H' q, Same H H' → H' q = some (.lst []) → Q (.ref q) H') := by
  refine T.F_inner_values.ok sc_inner_values (fun vs H Q E h => ?_) (fun cdv A' outer s H vs Q E hr h => ?_)
  · obtain ⟨v, rfl, _⟩ := h
    rfl
  · obtain ⟨v, rfl, hx, k⟩ := h
    refine ⟨_, (pss_cons (ps_if (PW.pt (pw_or (pt_not (pt_val (pe_callB call_isi (by rfl) T.n_isinstance (by decide +kernel) (pa_cons (pv 0) (pa_cons (pe_bltn (v := .ty "tuple") (by rfl) T.n_tuple (by decide +kernel) rfl) pa_nil))))) (pw_or (pt_cmpR U.uLt (pe_callB (U.uLen (K := K) rfl) (by rfl) T.n_len (by decide +kernel) (pa_cons (pv 0) pa_nil)) pe_int (nomark _)) (pw_or1 (pt_not (pt_val (pe_callB call_isi (by rfl) T.n_isinstance (by decide +kernel) (pa_cons (pe_ix (U.uIx (K := K) rfl) (pv 0) pe_int (fun _ _ => rfl)) (pa_cons (pe_bltn (v := .ty "str") (by rfl) T.n_str (by decide +kernel) rfl) pa_nil))))))))) (pss_one (ps_ret pe_non)) pss_nil)
    (pss_cons (ps_set (i := 1) sc_inner_values.nd rfl (Or.inl rfl) (pe_ix (U.uIx (K := K) rfl) (pv 0) pe_int (fun _ _ => rfl)))
    (pss_cons (ps_if (pt_cmpR (U.uEq (K := K) rfl hr.units) (pe_callB (U.uLen (K := K) rfl) (by rfl) T.n_len (by decide +kernel) (pa_cons (pv 0) pa_nil)) pe_int (nomark _)) (pss_cons (ps_if (pt_cmpR (U.uEq (K := K) rfl hr.units) (pv 1) pe_str (nomark _)) (pss_one (ps_ret (pe_ifExp (pt_val (pe_call (ok_is_measure T) (hr.mono (by decide)) rfl T.m_is_measure T.F_is_measure.kp T.b_is_measure .nil pass0 (pa_cons (pe_ix (U.uIx (K := K) rfl) (pv 0) pe_int (fun _ _ => rfl)) pa_nil))) (pe_lst pa_nil) pe_non))) pss_nil)
    (pss_one (ps_ret (pe_ifExp (PW.pt (pw_and (pt_cmpR (U.uEq (K := K) rfl hr.units) (pv 1) pe_str (nomark _)) (pw_and1 (pt_val (pe_call (ok_is_kind_name T) (hr.mono (by decide)) rfl T.m_is_kind_name T.F_is_kind_name.kp T.b_is_kind_name .nil pass0 (pa_cons (pe_ix (U.uIx (K := K) rfl) (pv 0) pe_int (fun _ _ => rfl)) pa_nil)))))) (pe_lst pa_nil) pe_non)))) pss_nil)
    (pss_cons (ps_if (pt_cmpR (U.uNe (K := K) rfl hr.units) (pe_callB (U.uLen (K := K) rfl) (by rfl) T.n_len (by decide +kernel) (pa_cons (pv 0) pa_nil)) pe_int (nomark _)) (pss_one (ps_ret pe_non)) pss_nil)
    (pss_cons (ps_if (pt_cmpR (U.uEq (K := K) rfl hr.units) (pv 1) pe_str (nomark _)) (pss_one (ps_ret (pe_slice (slA (K := K) rfl) (pv 0) (po_some pe_int) po_none))) pss_nil)
    (pss_cons (ps_if (PW.pt (pw_and (pt_cmpR (U.uIn (K := K) rfl) (pv 1) (pe_tup (pa_cons pe_str (pa_cons pe_str pa_nil))) rfl) (pw_and1 (PW.pt (pw_or (pt_cmpR op_isN (pe_ix (U.uIx (K := K) rfl) (pv 0) pe_int (fun _ _ => rfl)) pe_non (nomark _)) (pw_or1 (pt_val (pe_call (ok_is_kind_name T) (hr.mono (by decide)) rfl T.m_is_kind_name T.F_is_kind_name.kp T.b_is_kind_name .nil pass0 (pa_cons (pe_ix (U.uIx (K := K) rfl) (pv 0) pe_int (fun _ _ => rfl)) pa_nil))))))))) (pss_one (ps_ret (pe_call (ok_row_kinds T) (hr.mono (by decide)) rfl T.m_row_kinds T.F_row_kinds.kp T.b_row_kinds .nil pass0 (pa_cons (pv 1) (pa_cons (pe_ix (U.uIx (K := K) rfl) (pv 0) pe_int (fun _ _ => rfl)) pa_nil))))) pss_nil)
    (pss_cons (ps_if (PW.pt (pw_and (pt_cmpR (U.uEq (K := K) rfl hr.units) (pv 1) pe_str (nomark _)) (pw_and (pt_val (pe_call (ok_is_plain_word T) (hr.mono (by decide)) rfl T.m_is_plain_word T.F_is_plain_word.kp T.b_is_plain_word .nil pass0 (pa_cons (pe_ix (U.uIx (K := K) rfl) (pv 0) pe_int (fun _ _ => rfl)) pa_nil))) (pw_and (pt_val (pe_callB call_isi (by rfl) T.n_isinstance (by decide +kernel) (pa_cons (pe_ix (U.uIx (K := K) rfl) (pv 0) pe_int (fun _ _ => rfl)) (pa_cons (pe_bltn (v := .ty "tuple") (by rfl) T.n_tuple (by decide +kernel) rfl) pa_nil)))) (pw_and1 (pt_cmpR U.uLe (pe_callB (U.uLen (K := K) rfl) (by rfl) T.n_len (by decide +kernel) (pa_cons (pe_ix (U.uIx (K := K) rfl) (pv 0) pe_int (fun _ _ => rfl)) pa_nil)) pe_int (nomark _))))))) (pss_one (ps_ret (pe_ix (U.uIx (K := K) rfl) (pv 0) pe_int (fun _ _ => rfl)))) pss_nil)
    (pss_one (ps_ret pe_non))))))))), ?_⟩
    unfold numK at hx
    obtain ⟨t, ty, kt⟩ := hx.ty
    cases hx with
    | @tup p _ vs tp ha =>
      walk_at "w"
      refine ⟨_, _, _, _, _, rfl, .ty _, ty, kt.1, ?_⟩
      cases ha with
      | cons h0 ha =>
        cases h0
        cases ha with
        | @cons _ v1 _ _ h1 ha =>
          cases ha
          walk_at "w"
          refine Or.inr ⟨_, _, rfl, Or.inr tp.1, ?_⟩
          walk_at "w"
          refine Or.inr (Or.inl ⟨_, _, _, _, rfl, rfl, tp.1, U.atN 0 rfl rfl, ?_⟩)
          walk_at "w"
          refine ⟨_, _, _, _, _, rfl, .ty _, .base (.str _), kt_str.2.1, ?_⟩
          walk_at "w"
          refine Or.inr (Or.inl ⟨_, _, _, _, rfl, rfl, tp.1, U.atN 0 rfl rfl, ?_⟩)
          walk_at "w"
          refine Or.inr ⟨_, _, rfl, Or.inr tp.1, ?_⟩
          walk_at "w"
          refine Or.inr (Or.inl ⟨_, _, _, _, rfl, rfl, tp.1, U.atN 1 rfl rfl, ?_⟩)
          walk_at "w"
          refine ⟨.tup [], v1, rfl, h1, fun H1 s1 => ?_⟩
          rw [show measB (.tup []) = true from rfl]
          walk_at "w"
          intro q nq; generalize hX : upd _ q _ = H2; obtain ⟨s2, g2⟩ := U.newF nq hX; clear hX
          exact k H2 q (s1.trans s2) g2
theorem ok_is_built_kind (T : Top w K mg A) : FnOk P w K mg base CX0 8 A.a_is_built_kind A.fd_is_built_kind ["value"] (fun vs H Q _ => ∃ v, vs = [v] ∧ Is K H numK v ∧ ∀ H', Same H H' → Q (.bl true) H') := by
  refine T.F_is_built_kind.ok sc_is_built_kind (fun vs H Q E h => ?_) (fun cdv A' outer s H vs Q E hr h => ?_)
  · obtain ⟨v, rfl, _⟩ := h
    rfl
  · obtain ⟨v, rfl, hx, k⟩ := h
    refine ⟨_, (pss_cons (ps_set (i := 1) sc_is_built_kind.nd rfl (Or.inl rfl) (pe_lst (pa_cons (pv 0) pa_nil)))
    (pss_cons (ps_while PassesOwn.never (pt_lst (K := K) rfl (pv 1) (fun _ => rfl)) (pss_cons (ps_set (i := 2) sc_is_built_kind.nd rfl (Or.inl rfl) (pe_call (ok_inner_values T) (hr.mono (by decide)) rfl T.m_inner_values T.F_inner_values.kp T.b_inner_values .nil pass0 (pa_cons (pe_bm0 PySem.F.plainAttrs_list PySem.F.slot_list_pop PySem.F.type_list_pop mt_pop (pv 1)) pa_nil)))
    (pss_cons (ps_if (pt_cmpR op_isN (pv 2) pe_non (nomark _)) (pss_one (ps_ret pe_bl)) pss_nil)
    (pss_one (ps_expr (pe_bm PySem.F.plainAttrs_list PySem.F.slot_list_extend PySem.F.type_list_extend (mt_extU (K := K) rfl) (pv 1) (pa_cons (pv 2) pa_nil)))))))
    (pss_one (ps_ret pe_bl)))), ?_⟩
    walk_at "w"
    intro D nD; generalize hX : upd _ D _ = H1; obtain ⟨s1, g1⟩ := U.newF nD hX; clear hX
    walk_at "w"
    refine ⟨fun m σ H' => ∃ o2, σ = [some v, some (.ref D), o2] ∧ U.SameBut D H1 H' ∧ ((m = 1 ∧ H' D = some (.lst [v])) ∨ (m = 0 ∧ H' D = some (.lst []))), ⟨1, _, rfl, U.SameBut.refl _ _, .inl ⟨rfl, g1⟩⟩, ?_⟩
    rintro m σ H' ⟨o2, rfl, sb, hm⟩
    walk_at "w"
    rcases hm with ⟨rfl, gD⟩ | ⟨rfl, gD⟩
    · refine ⟨D, _, rfl, SqL.of gD, ?_⟩
      refine ⟨fun σ' H2 => _, fun σ' H2 q => ⟨0, Nat.zero_lt_one, q⟩, ?_⟩
      walk_at "w"
      refine rPop_rev (vs := []) gD ?_
      have sb3 : U.SameBut D H1 (upd H' D (.lst [])) := sb.upd
      have g3 : (upd H' D (.lst [])) D = some (.lst []) := upd_same
      show tNil _ (upd H' D (.lst [])) _
      generalize upd H' D (.lst []) = H3 at sb3 g3 ⊢
      have hx3 := hx.keep (U.Same.but s1 sb3 nD)
      walk_at "w"
      refine ⟨hx3, fun H4 q s4 g4 => ?_⟩
      have g34 := s4 _ _ g3
      walk_at "w"
      refine ⟨D, q, [], [], rfl, rfl, g34, .inl g4, Nat.zero_le _, ?_⟩
      exact ⟨_, rfl, (sb3.trans (.of s4)).upd, .inr ⟨rfl, upd_same⟩⟩
    · refine ⟨D, _, rfl, SqL.of gD, ?_⟩
      walk_at "w"
      exact k H' (U.Same.but s1 sb nD)
end
section
variable {P : Program} {w : World} {K : PySem.W.Frag} {mg : Str → Option Value} {base : Heap} {A : Ad}
theorem ok_uses_and_owns (T : Top w K mg A) : FnOk P w K mg base CX0 2 A.a_uses_and_owns A.fd_uses_and_owns ["kind"] (fun vs H Q _ => ∃ v, vs = [v] ∧ Is K H numK v ∧ ∀ H' p q r, Same H H' → H' p = some (.tup [.ref q, .ref r]) → H' q = some (.lst []) → Q (.ref p) H') := by
  refine T.F_uses_and_owns.ok sc_uses_and_owns (fun vs H Q E h => ?_) (fun cdv A' outer s H vs Q E hr h => ?_)
  · obtain ⟨v, rfl, _⟩ := h
    rfl
  · obtain ⟨v, rfl, hx, k⟩ := h
    refine ⟨_, (pss_cons (ps_set (i := 1) sc_uses_and_owns.nd rfl (Or.inl rfl) (pe_lst pa_nil))
    (pss_cons (ps_set (i := 2) sc_uses_and_owns.nd rfl (Or.inl rfl) (pe_lst pa_nil))
    (pss_cons (ps_set (i := 3) sc_uses_and_owns.nd rfl (Or.inl rfl) (pe_lst (pa_cons (pv 0) pa_nil)))
    (pss_cons (ps_while PassesOwn.never (pt_lst (K := K) rfl (pv 3) (fun _ => rfl)) (pss_cons (ps_set (i := 4) sc_uses_and_owns.nd rfl (Or.inl rfl) (pe_bm0 PySem.F.plainAttrs_list PySem.F.slot_list_pop PySem.F.type_list_pop mt_pop (pv 3)))
    (pss_cons (ps_set (i := 5) sc_uses_and_owns.nd rfl (Or.inl rfl) (pe_ix (U.uIx (K := K) rfl) (pv 4) pe_int (fun _ _ => rfl)))
    (pss_one (ps_if (pt_cmpR (U.uEq (K := K) rfl hr.units) (pv 5) pe_str (nomark _)) (pss_one (ps_expr (pe_bm PySem.F.plainAttrs_list PySem.F.slot_list_extend PySem.F.type_list_extend (mt_extU (K := K) rfl) (pv 1) (pa_cons (pe_lc (own := [("factor", 6), ("_", 7)]) rfl sc_uses_and_owns.nd (pi_tup (pe_ix (U.uIx (K := K) rfl) (pv 4) pe_int (fun _ _ => rfl))) (blkOk_by (own := [("factor", 6), ("_", 7)]) (N := nm_uses_and_owns) (sc := defScope s_uses_and_owns) (by decide +kernel)) (fun _ _ _ _ _ => (pg_tupK (K := K) (n := 2) rfl rfl (pgs_cons (pg_name (i := 6) sc_uses_and_owns.nd rfl (Or.inl rfl)) (pgs_cons (pg_name (i := 7) sc_uses_and_owns.nd rfl (Or.inl rfl)) pgs_nil)))) (fun _ _ _ _ _ => pts_one (pt_val (pe_call (ok_is_name T) (hr.mono (by decide)) rfl T.m_is_name T.F_is_name.kp T.b_is_name .nil pass0 (pa_cons (pv 6) pa_nil)))) (fun _ _ _ _ _ => (pe_tup (pa_cons (pv 6) (pa_cons (pe_tup (pa_cons pe_str (pa_cons (pe_tupF pa_nil) pa_nil))) pa_nil))))) pa_nil)))) (pss_one (ps_if (pt_cmpR (U.uEq (K := K) rfl hr.units) (pv 5) pe_str (nomark _)) (pss_one (ps_expr (pe_bm PySem.F.plainAttrs_list PySem.F.slot_list_append PySem.F.type_list_append mt_append (pv 1) (pa_cons (pe_tup (pa_cons (pe_ix (U.uIx (K := K) rfl) (pv 4) pe_int (fun _ _ => rfl)) (pa_cons (pe_tup (pa_cons pe_str (pa_cons (pe_tupF pa_nil) pa_nil))) pa_nil))) pa_nil)))) (pss_one (ps_if (pt_cmpR (U.uEq (K := K) rfl hr.units) (pv 5) pe_str (nomark _)) (pss_one (ps_expr (pe_bm PySem.F.plainAttrs_list PySem.F.slot_list_append PySem.F.type_list_append mt_append (pv 1) (pa_cons (pe_tup (pa_cons (pe_ix (U.uIx (K := K) rfl) (pv 4) pe_int (fun _ _ => rfl)) (pa_cons (pe_ix (U.uIx (K := K) rfl) (pv 4) pe_int (fun _ _ => rfl)) pa_nil))) pa_nil)))) (pss_one (ps_if (pt_cmpR (U.uEq (K := K) rfl hr.units) (pv 5) pe_str (nomark _)) (pss_one (ps_expr (pe_bm PySem.F.plainAttrs_list PySem.F.slot_list_extend PySem.F.type_list_extend (mt_extU (K := K) rfl) (pv 3) (pa_cons (pe_lst (pa_cons (pe_ix (U.uIx (K := K) rfl) (pv 4) pe_int (fun _ _ => rfl)) (pa_cons (pe_ix (U.uIx (K := K) rfl) (pv 4) pe_int (fun _ _ => rfl)) pa_nil))) pa_nil)))) (pss_one (ps_if (pt_cmpR (U.uEq (K := K) rfl hr.units) (pv 5) pe_str (nomark _)) (pss_cons (ps_expr (pe_bm PySem.F.plainAttrs_list PySem.F.slot_list_append PySem.F.type_list_append mt_append (pv 2) (pa_cons (pe_tup (pa_cons (pe_ix (U.uIx (K := K) rfl) (pv 4) pe_int (fun _ _ => rfl)) (pa_cons (pe_ix (U.uIx (K := K) rfl) (pv 4) pe_int (fun _ _ => rfl)) pa_nil))) pa_nil)))
    (pss_one (ps_expr (pe_bm PySem.F.plainAttrs_list PySem.F.slot_list_extend PySem.F.type_list_extend (mt_extU (K := K) rfl) (pv 3) (pa_cons (pe_revL (pe_ix (U.uIx (K := K) rfl) (pv 4) pe_int (fun _ _ => rfl))) pa_nil))))) (pss_cons (ps_if (pt_cmpR op_notN (pe_ix (U.uIx (K := K) rfl) (pv 4) pe_int (fun _ _ => rfl)) pe_non (nomark _)) (pss_one (ps_expr (pe_bm PySem.F.plainAttrs_list PySem.F.slot_list_append PySem.F.type_list_append mt_append (pv 3) (pa_cons (pe_tup (pa_cons pe_str (pa_cons (pe_ix (U.uIx (K := K) rfl) (pv 4) pe_int (fun _ _ => rfl)) (pa_cons (pe_tup (pa_cons (pv 5) (pa_cons (pe_callTy cr_tupF (by rfl) T.n_tuple (by decide +kernel) (pa_cons (pe_lc (own := [("label", 8), ("_", 7)]) rfl sc_uses_and_owns.nd (pi_list (pe_ix (U.uIx (K := K) rfl) (pv 4) pe_int (fun _ _ => rfl))) (blkOk_by (own := [("label", 8), ("_", 7)]) (N := nm_uses_and_owns) (sc := defScope s_uses_and_owns) (by decide +kernel)) (fun _ _ _ _ _ => (pg_tupK (K := K) (n := 2) rfl rfl (pgs_cons (pg_name (i := 8) sc_uses_and_owns.nd rfl (Or.inl rfl)) (pgs_cons (pg_name (i := 7) sc_uses_and_owns.nd rfl (Or.inl rfl)) pgs_nil)))) (fun _ _ _ _ _ => pts_nil) (fun _ _ _ _ _ => (pv 8))) pa_nil)) pa_nil))) pa_nil)))) pa_nil)))) pss_nil)
    (pss_one (ps_expr (pe_bm PySem.F.plainAttrs_list PySem.F.slot_list_extend PySem.F.type_list_extend (mt_extU (K := K) rfl) (pv 3) (pa_cons (pe_lc (own := [("_", 7), ("inner", 9)]) rfl sc_uses_and_owns.nd (pi_list (pe_revL (pe_ix (U.uIx (K := K) rfl) (pv 4) pe_int (fun _ _ => rfl)))) (blkOk_by (own := [("_", 7), ("inner", 9)]) (N := nm_uses_and_owns) (sc := defScope s_uses_and_owns) (by decide +kernel)) (fun _ _ _ _ _ => (pg_tupK (K := K) (n := 2) rfl rfl (pgs_cons (pg_name (i := 7) sc_uses_and_owns.nd rfl (Or.inl rfl)) (pgs_cons (pg_name (i := 9) sc_uses_and_owns.nd rfl (Or.inl rfl)) pgs_nil)))) (fun _ _ _ _ _ => pts_nil) (fun _ _ _ _ _ => (pv 9))) pa_nil))))))))))))))))))
    (pss_one (ps_ret (pe_tup (pa_cons (pv 1) (pa_cons (pv 2) pa_nil))))))))), ?_⟩
    walk_at "w"
    intro U1 nU; generalize hX : upd _ U1 _ = H1; obtain ⟨s1, g1⟩ := U.newF nU hX; clear hX
    walk_at "w"
    intro O1 nO; generalize hX : upd _ O1 _ = H2; obtain ⟨s2, g2⟩ := U.newF nO hX; clear hX
    walk_at "w"
    intro D nD; generalize hX : upd _ D _ = H3; obtain ⟨s3, g3⟩ := U.newF nD hX; clear hX
    walk_at "w"
    have OU : O1 ≠ U1 := fun z => by rw [z, g1] at nO; cases nO
    have g2u : H2 U1 = some (.lst []) := s2 _ _ g1
    have DU : D ≠ U1 := fun z => by rw [z, g2u] at nD; cases nD
    have DO : D ≠ O1 := fun z => by rw [z, g2] at nD; cases nD
    have s13 : Same H H3 := (s1.trans s2).trans s3
    have fU : H U1 = none := nU
    have fD : H D = none := by
      cases q : H D with
      | none => rfl
      | some o => rw [(s1.trans s2) _ _ q] at nD; cases nD
    refine ⟨fun m σ H' => ∃ o4 o5 o6 o7 o8 o9, σ = [some v, some (.ref U1), some (.ref O1), some (.ref D), o4, o5, o6, o7, o8, o9] ∧ Same H H' ∧ H' U1 = some (.lst []) ∧ ((m = 1 ∧ H' D = some (.lst [v])) ∨ (m = 0 ∧ H' D = some (.lst []))), ⟨1, _, _, _, _, _, _, rfl, s13, s3 _ _ g2u, .inl ⟨rfl, g3⟩⟩, ?_⟩
    rintro m σ H' ⟨o4, o5, o6, o7, o8, o9, rfl, sH, gU, hm⟩
    walk_at "w"
    rcases hm with ⟨rfl, gD⟩ | ⟨rfl, gD⟩
    · refine ⟨D, _, rfl, SqL.of gD, ?_⟩
      refine ⟨fun σ' H2 => _, fun σ' H2 q => ⟨0, Nat.zero_lt_one, q⟩, ?_⟩
      walk_at "w"
      refine rPop_rev (vs := []) gD ?_
      rw [show ([] : List V).reverse = [] from rfl]
      have s4 : Same H (upd H' D (.lst [])) := fun c o e => by rw [upd_ne (fun z => by rw [z, fD] at e; cases e)]; exact sH c o e
      have g4 : (upd H' D (.lst [])) D = some (.lst []) := upd_same
      have g4u : (upd H' D (.lst [])) U1 = some (.lst []) := by rw [upd_ne (fun z => DU z.symm)]; exact gU
      generalize upd H' D (.lst []) = H4 at s4 g4 g4u ⊢
      have hx4 := hx.keep s4
      unfold numK at hx4
      walk_at "w"
      cases hx4 with
      | @tup pk _ vk tk hak =>
        cases hak with
        | cons k0 hak =>
          cases k0
          cases hak with
          | @cons _ v1 _ _ k1 hak =>
            cases hak
            cases k1 with
            | @tup pe _ ve te hae =>
              cases hae
              refine Or.inr (Or.inl ⟨_, _, _, _, rfl, rfl, tk.1, U.atN 0 rfl rfl, ?_⟩)
              walk_at "w"
              refine Or.inr (Or.inl ⟨_, _, _, _, rfl, rfl, tk.1, U.atN 1 rfl rfl, ?_⟩)
              walk_at "w"
              refine ⟨⟨_, te.1⟩, fun F nF => ?_⟩
              have FU : F ≠ U1 := fun z => by rw [z, g4u] at nF; cases nF
              have FD : F ≠ D := fun z => by rw [z, g4] at nF; cases nF
              have fF : H F = none := by
                cases q : H F with
                | none => rfl
                | some o => rw [s4 _ _ q] at nF; cases nF
              refine lc_tup (xs := []) (fun i Hj => Hj F = some (.lst []) ∧ Same H4 Hj) ⟨upd_same, same_new nF⟩ (fun i Hj _ st => (te.keep st.2).1) (fun i x Hj hx => by simp at hx) ?_
              rintro Hj ⟨gF, sj⟩
              walk_at "w"
              refine ⟨U1, F, [], [], rfl, rfl, sj _ _ g4u, .inl gF, Nat.zero_le _, ?_⟩
              refine ⟨_, _, _, _, _, _, rfl, ?_, upd_same, .inr ⟨rfl, ?_⟩⟩
              · exact fun c o e => by rw [upd_ne (fun z => by rw [z, fU] at e; cases e)]; exact sj _ _ (s4 c o e)
              · rw [upd_ne DU]
                exact sj _ _ g4
    · refine ⟨D, _, rfl, SqL.of gD, ?_⟩
      walk_at "w"
      intro r nr; generalize hX : upd _ r _ = H5; obtain ⟨s5, g5⟩ := U.newF nr hX; clear hX
      exact k H5 r U1 O1 (sH.trans s5) g5 (s5 _ _ gU)
theorem ok_first_stray (T : Top w K mg A) : FnOk P w K mg base CX0 1 A.a_first_stray A.fd_first_stray ["uses"] (fun vs H Q _ => ∃ q, vs = [.ref q] ∧ H q = some (.lst []) ∧ ∀ H', Same H H' → Q .non H') := by
  refine T.F_first_stray.ok sc_first_stray (fun vs H Q E h => ?_) (fun cdv A' outer s H vs Q E hr h => ?_)
  · obtain ⟨q, rfl, _⟩ := h
    rfl
  · obtain ⟨q, rfl, hq, k⟩ := h
    refine ⟨_, (pss_cons (ps_set (i := 1) sc_first_stray.nd rfl (Or.inl rfl) pe_dnewK)
    (pss_cons (ps_for PassesOwn.never rfl (pi_list (pv 0)) (pg_tup rfl (pgs_cons (pg_name (i := 2) sc_first_stray.nd rfl (Or.inl rfl)) (pgs_cons (pg_name (i := 3) sc_first_stray.nd rfl (Or.inl rfl)) pgs_nil))) (pss_one (ps_if (pt_cmpR (U.uNe (K := K) rfl hr.units) (pe_dsetd (pv 1) (pv 2) (pv 3) ⟨rfl, rfl, rfl, rfl⟩) (pv 3) (nomark _)) (pss_one (ps_ret (pv 2))) pss_nil)))
    (pss_one (ps_ret pe_non)))), ?_⟩
    walk_at "w"
    intro D nD; generalize hX : upd _ D _ = H1; obtain ⟨s1, g1⟩ := U.newF nD hX; clear hX
    walk_at "w"
    have gq := s1 _ _ hq
    refine ⟨⟨_, SqL.of gq⟩, ?_⟩
    refine for_list (K := K) (xs := []) (fun i σ Hj => Same H1 Hj ∧ Hj q = some (.lst [])) ⟨Same.refl _, gq⟩ (fun i σ Hj _ st => SqL.of st.2) (fun i x σ Hj hx => by simp at hx) ?_
    rintro σ Hj ⟨sj, _⟩
    walk_at "w"
    exact k Hj (s1.trans sj)
end
section
variable {P : Program} {w : World} {K : PySem.W.Frag} {mg : Str → Option Value} {base : Heap} {A : Ad}
theorem ok_uses_in (T : Top w K mg A) : FnOk P w K mg base CX0 3 A.a_uses_in A.fd_uses_in ["kind"] (fun vs H Q _ => ∃ v, vs = [v] ∧ Is K H numK v ∧ ∀ H' q, Same H H' → H' q = some (.lst []) → Q (.ref q) H') := by
  refine T.F_uses_in.ok sc_uses_in (fun vs H Q E h => ?_) (fun cdv A' outer s H vs Q E hr h => ?_)
  · obtain ⟨v, rfl, _⟩ := h
    rfl
  · obtain ⟨v, rfl, hx, k⟩ := h
    refine ⟨_, (pss_one (ps_ret (pe_ix (U.uIx (K := K) rfl) (pe_call (ok_uses_and_owns T) (hr.mono (by decide)) rfl T.m_uses_and_owns T.F_uses_and_owns.kp T.b_uses_and_owns .nil pass0 (pa_cons (pv 0) pa_nil)) pe_int (fun _ _ => rfl)))), ?_⟩
    walk_at "w"
    refine ⟨hx, fun H1 p q r s1 gp gq => ?_⟩
    walk_at "w"
    refine Or.inr (Or.inl ⟨_, _, _, _, rfl, rfl, SqT.of gp, U.atN 0 rfl rfl, ?_⟩)
    exact k H1 q s1 gq
theorem ok_is_kind (T : Top w K mg A) : FnOk P w K mg base CX0 9 A.a_is_kind A.fd_is_kind ["value"] (fun vs H Q _ => ∃ v, vs = [v] ∧ Is K H numK v ∧ ∀ H', Same H H' → Q (.bl true) H') := by
  refine T.F_is_kind.ok sc_is_kind (fun vs H Q E h => ?_) (fun cdv A' outer s H vs Q E hr h => ?_)
  · obtain ⟨v, rfl, _⟩ := h
    rfl
  · obtain ⟨v, rfl, hx, k⟩ := h
    refine ⟨_, (pss_one (ps_ret (pe_and (pe_call (ok_is_built_kind T) (hr.mono (by decide)) rfl T.m_is_built_kind T.F_is_built_kind.kp T.b_is_built_kind .nil pass0 (pa_cons (pv 0) pa_nil)) (pe_one (pe_cmpR op_isN (pe_call (ok_first_stray T) (hr.mono (by decide)) rfl T.m_first_stray T.F_first_stray.kp T.b_first_stray .nil pass0 (pa_cons (pe_call (ok_uses_in T) (hr.mono (by decide)) rfl T.m_uses_in T.F_uses_in.kp T.b_uses_in .nil pass0 (pa_cons (pv 0) pa_nil)) pa_nil)) pe_non (nomark _)))))), ?_⟩
    walk_at "w"
    refine ⟨hx, fun H1 s1 => ?_⟩
    walk_at "w"
    refine ⟨hx.keep s1, fun H2 q s2 gq => ?_⟩
    walk_at "w"
    intro H3 s3
    walk_at "w"
    exact k H3 ((s1.trans s2).trans s3)
def countB : PV → Bool
  | .int i => decide (0 ≤ i)
  | _ => false
inductive OfD : Str → PV → Bool → Prop
  | word (x : PV) : OfD "word" x (onStr isW x)
  | tag (x : PV) : OfD "tag" x (onStr isTg x)
  | count (x : PV) : OfD "count" x (countB x)
  | unit (x : PV) (h : x = .non ∨ x = unitU ∨ x = .oth) : OfD "unit" x (unitB x)
  | ent (x : PV) (h : x = .oth ∨ ∃ es ls, x = .tup es ∧ Ents es ls ∧ ls.Nodup ∧ ls.length ≤ 10) : OfD "entries" x x.isTup
  | kind : OfD "kind" numK true
def spOf (K : PySem.W.Frag) : Sp := fun vs H Q _ => ∃ (x : PV) (v : V) (s : Str) (b : Bool), vs = [v, .str s] ∧ Is K H x v ∧ OfD s x b ∧ ∀ H', Same H H' → Q (.bl b) H'
theorem spAny_or {f : Str → Bool} {H : Hp} {Q : VK} {x : PV} {v : V} (h : Is K H x v) (k : ∀ H', Same H H' → Q (.bl (onStr f x)) H') : (∃ z : Str, v = .str z ∧ z.length ≤ 10000 ∧ ∀ H', Same H H' → Q (.bl (f z)) H') ∨ ∃ t, TyX K H v t ∧ PySem.W.kitOne K t (.type "str") = some false ∧ ∀ H', Same H H' → Q (.bl false) H' := by
  obtain ⟨v', e, q⟩ := spAny_of (E := fun _ _ _ => True) h k
  cases e
  exact q
theorem ok_is_of (T : Top w K mg A) : FnOk P w K mg base CX0 10 A.a_is_of A.fd_is_of ["value", "sort"] (spOf K) := by
  refine T.F_is_of.ok sc_is_of (fun vs H Q E h => ?_) (fun cdv A' outer s H vs Q E hr h => ?_)
  · obtain ⟨x, v, s, b, rfl, _⟩ := h
    rfl
  · obtain ⟨x, v, s, b, rfl, hx, hd, k⟩ := h
    refine ⟨_, (pss_cons (ps_if (pt_cmpR (U.uEq (K := K) rfl hr.units) (pv 1) pe_str (nomark _)) (pss_one (ps_ret pe_bl)) pss_nil)
    (pss_cons (ps_if (pt_cmpR (U.uEq (K := K) rfl hr.units) (pv 1) pe_str (nomark _)) (pss_one (ps_ret (pe_call (ok_is_word T) (hr.mono (by decide)) rfl T.m_is_word T.F_is_word.kp T.b_is_word .nil pass0 (pa_cons (pv 0) pa_nil)))) pss_nil)
    (pss_cons (ps_if (pt_cmpR (U.uEq (K := K) rfl hr.units) (pv 1) pe_str (nomark _)) (pss_one (ps_ret (pe_call (ok_are_entries T) (hr.mono (by decide)) rfl T.m_are_entries T.F_are_entries.kp T.b_are_entries .nil pass0 (pa_cons (pv 0) pa_nil)))) pss_nil)
    (pss_cons (ps_if (pt_cmpR (U.uEq (K := K) rfl hr.units) (pv 1) pe_str (nomark _)) (pss_one (ps_ret (pe_call (ok_is_tag T) (hr.mono (by decide)) rfl T.m_is_tag T.F_is_tag.kp T.b_is_tag .nil pass0 (pa_cons (pv 0) pa_nil)))) pss_nil)
    (pss_cons (ps_if (pt_cmpR (U.uEq (K := K) rfl hr.units) (pv 1) pe_str (nomark _)) (pss_one (ps_ret (pe_and (pe_call (ok_is_integer T) (hr.mono (by decide)) rfl T.m_is_integer T.F_is_integer.kp T.b_is_integer .nil pass0 (pa_cons (pv 0) pa_nil)) (pe_one (pe_cmpR U.uGe (pv 0) pe_int (nomark _)))))) pss_nil)
    (pss_cons (ps_if (pt_cmpR (U.uEq (K := K) rfl hr.units) (pv 1) pe_str (nomark _)) (pss_one (ps_ret (pe_call (ok_is_unit T) (hr.mono (by decide)) rfl T.m_is_unit T.F_is_unit.kp T.b_is_unit .nil pass0 (pa_cons (pv 0) pa_nil)))) pss_nil)
    (pss_cons (ps_if (pt_cmpR (U.uEq (K := K) rfl hr.units) (pv 1) pe_str (nomark _)) (pss_one (ps_ret (pe_and (pe_callB call_isi (by rfl) T.n_isinstance (by decide +kernel) (pa_cons (pv 0) (pa_cons (pe_bltn (v := .ty "str") (by rfl) T.n_str (by decide +kernel) rfl) pa_nil))) (pe_one (pe_cmpR (U.uIn (K := K) rfl) (pv 0) (U.pe_con_ T.m_SIGNS) rfl))))) pss_nil)
    (pss_cons (ps_if (pt_cmpR (U.uEq (K := K) rfl hr.units) (pv 1) pe_str (nomark _)) (pss_one (ps_ret (pe_call (ok_are_rows T) (hr.mono (by decide)) rfl T.m_are_rows T.F_are_rows.kp T.b_are_rows .nil pass0 (pa_cons (pv 0) pa_nil)))) pss_nil)
    (pss_cons (ps_if (pt_cmpR (U.uEq (K := K) rfl hr.units) (pv 1) pe_str (nomark _)) (pss_one (ps_ret (pe_call (ok_is_kind T) (hr.mono (by decide)) rfl T.m_is_kind T.F_is_kind.kp T.b_is_kind .nil pass0 (pa_cons (pv 0) pa_nil)))) pss_nil)
    (pss_one (ps_ret (pe_ifExp (pt_cmpR (U.uEq (K := K) rfl hr.units) (pv 1) pe_str (nomark _)) (pe_call (ok_is_plain_word T) (hr.mono (by decide)) rfl T.m_is_plain_word T.F_is_plain_word.kp T.b_is_plain_word .nil pass0 (pa_cons (pv 0) pa_nil)) (pe_callB call_isi (by rfl) T.n_isinstance (by decide +kernel) (pa_cons (pv 0) (pa_cons (pe_bltn (v := .ty "tuple") (by rfl) T.n_tuple (by decide +kernel) rfl) pa_nil))))))))))))))), ?_⟩
    cases hd with
    | word =>
      walk_at "w"
      exact spAny_or hx k
    | tag =>
      walk_at "w"
      exact spAny_or hx k
    | count =>
      walk_at "w"
      obtain ⟨t, ty, kt⟩ := hx.ty
      refine ⟨_, _, _, _, rfl, ty, kt.2.2.1, kt.2.2.2, ?_⟩
      cases hx with
      | int i =>
        walk_at "w"
        exact k H (Same.refl _)
      | non =>
        walk_at "w"
        exact k H (Same.refl _)
      | bl b =>
        walk_at "w"
        exact k H (Same.refl _)
      | str z hz =>
        walk_at "w"
        exact k H (Same.refl _)
      | tup h a =>
        walk_at "w"
        exact k H (Same.refl _)
      | oth h a =>
        walk_at "w"
        exact k H (Same.refl _)
    | unit _ hu =>
      walk_at "w"
      exact ⟨x, _, rfl, hx, hu, k⟩
    | ent _ hu =>
      walk_at "w"
      exact ⟨x, _, rfl, hx, hu, k⟩
    | kind =>
      walk_at "w"
      exact ⟨hx, k⟩
end
section
variable {P : Program} {w : World} {K : PySem.W.Frag} {mg : Str → Option Value} {base : Heap} {A : Ad}
/-- items judged by their sorts -/
inductive FitL : List PV → List Str → Bool → Prop
  | nil : FitL [] [] true
  | tree {x : PV} {xs : List PV} {ss : List Str} {b : Bool} (t : FitL xs ss b) : FitL (x :: xs) ("tree" :: ss) b
  | yes {x : PV} {s : Str} {xs : List PV} {ss : List Str} {b : Bool} (n : s ≠ "tree") (h : OfD s x true) (t : FitL xs ss b) : FitL (x :: xs) (s :: ss) b
  | no {x : PV} {s : Str} {xs : List PV} {ss : List Str} (n : s ≠ "tree") (h : OfD s x false) (l : xs.length = ss.length) : FitL (x :: xs) (s :: ss) false
theorem FitL.len : ∀ {xs : List PV} {ss : List Str} {b : Bool}, FitL xs ss b → xs.length = ss.length
  | _, _, _, .nil => rfl
  | _, _, _, .tree t => congrArg (· + 1) t.len
  | _, _, _, .yes _ _ t => congrArg (· + 1) t.len
  | _, _, _, .no _ _ l => congrArg (· + 1) l
def spFits (K : PySem.W.Frag) : Sp := fun vs H Q _ => ∃ (h : Str) (xs : List PV) (v : V) (q : Addr) (ss : List Str) (b : Bool), vs = [v, .ref q] ∧ Is K H (.tup (.str h :: xs)) v ∧ (∀ H1, SqT K H1 q (ss.map V.str)) ∧ h ≠ "rec" ∧ ss.length ≤ 10 ∧ xs.length ≤ 10 ∧ ((xs.length ≠ ss.length ∧ b = false) ∨ FitL xs ss b) ∧ ∀ H', Same H H' → Q (.bl b) H'
theorem FitL.step {x : PV} {s : Str} {xs : List PV} {ss : List Str} {b : Bool} (h : FitL (x :: xs) (s :: ss) b) : (s = "tree" ∧ FitL xs ss b) ∨ (s ≠ "tree" ∧ ((OfD s x true ∧ FitL xs ss b) ∨ (OfD s x false ∧ b = false))) := by
  cases h with
  | tree t => exact .inl ⟨rfl, t⟩
  | yes n h t => exact .inr ⟨n, .inl ⟨h, t⟩⟩
  | no n h l => exact .inr ⟨n, .inr ⟨h, rfl⟩⟩
theorem sIx1 {v : V} {vs : List V} : HT.sIx (v :: vs).length 0 (some 1) = 1 := by
  have := HT.sIx_nat (v :: vs).length 0 1
  rw [show (some (1 : Int)) = some ((1 : Nat) : Int) from rfl, this, List.length_cons]
  omega
theorem cutV1 {v : V} {vs : List V} : cutV (v :: vs) (some 1) none = vs := by
  unfold cutV
  rw [sIx1]
  show List.take ((v :: vs).length - 1) (List.drop 1 (v :: vs)) = vs
  rw [List.drop_succ_cons, List.drop_zero, List.length_cons, Nat.add_sub_cancel, List.take_length]
theorem ok_fits_shape (T : Top w K mg A) : FnOk P w K mg base CX0 11 A.a_fits_shape A.fd_fits_shape ["value", "shape"] (spFits K) := by
  refine T.F_fits_shape.ok sc_fits_shape (fun vs H Q E h => ?_) (fun cdv A' outer s H vs Q E hr h => ?_)
  · obtain ⟨h, xs, v, q, ss, b, rfl, _⟩ := h
    rfl
  · obtain ⟨h, xs, v, q, ss, b, rfl, hx, hq, hh, hl, hl2, hd, k⟩ := h
    refine ⟨_, (pss_cons (ps_if (pt_cmpR (U.uNe (K := K) rfl hr.units) (pe_callB (U.uLen (K := K) rfl) (by rfl) T.n_len (by decide +kernel) (pa_cons (pv 0) pa_nil)) (pe_op U.uAdd (pe_callB (U.uLen (K := K) rfl) (by rfl) T.n_len (by decide +kernel) (pa_cons (pv 1) pa_nil)) pe_int) (nomark _)) (pss_one (ps_ret pe_bl)) pss_nil)
    (pss_cons (ps_for PassesOwn.never rfl (RZ.pi_zipA (by rfl) T.n_zip (pa_cons (pe_slice (slA (K := K) rfl) (pv 0) (po_some pe_int) po_none) (pa_cons (pv 1) pa_nil))) (pg_tup rfl (pgs_cons (pg_name (i := 2) sc_fits_shape.nd rfl (Or.inl rfl)) (pgs_cons (pg_name (i := 3) sc_fits_shape.nd rfl (Or.inl rfl)) pgs_nil))) (pss_one (ps_if (PW.pt (pw_and (pt_cmpR (U.uNe (K := K) rfl hr.units) (pv 3) pe_str (nomark _)) (pw_and1 (pt_not (pt_val (pe_call (ok_is_of T) (hr.mono (by decide)) rfl T.m_is_of T.F_is_of.kp T.b_is_of .nil pass0 (pa_cons (pv 2) (pa_cons (pv 3) pa_nil)))))))) (pss_one (ps_ret pe_bl)) pss_nil)))
    (pss_one (ps_ret (pe_or (pe_cmpR (U.uNe (K := K) rfl hr.units) (pe_ix (U.uIx (K := K) rfl) (pv 0) pe_int (fun _ _ => rfl)) pe_str (nomark _)) (pe_one (pe_cmpR (U.uNe (K := K) rfl hr.units) (pe_ix (U.uIx (K := K) rfl) (pv 0) pe_int (fun _ _ => rfl)) (pe_ix (U.uIx (K := K) rfl) (pv 0) pe_int (fun _ _ => rfl)) (nomark _)))))))), ?_⟩
    cases hx with
    | @tup p _ vs tp ha =>
      walk_at "w"
      refine Or.inr ⟨_, _, rfl, Or.inr tp.1, ?_⟩
      walk_at "w"
      refine Or.inr ⟨_, _, rfl, Or.inr (hq _), ?_⟩
      walk_at "w"
      have e1 := ha.len
      refine U.ifDbi (fun hn => ?_) (fun hn => ?_)
      · walk_at "w"
        rcases hd with ⟨_, rfl⟩ | hf
        · exact k H (Same.refl _)
        · refine absurd ?_ hn
          rw [← e1, List.length_cons, hf.len, List.length_map]
          omega
      · have hln : xs.length = ss.length := by
          rw [← e1, List.length_cons, List.length_map] at hn
          omega
        have hf : FitL xs ss b := by
          rcases hd with ⟨h1, _⟩ | hf
          · exact absurd hln h1
          · exact hf
        cases ha with
        | @cons _ v0 _ vs h0 ha =>
          cases h0
          walk_at "w"
          refine ⟨p, _, rfl, tp.1, fun e => absurd (sIx1.symm.trans e.1) (by decide), fun _ q1 nq => ?_⟩
          rw [cutV1]
          generalize hX : upd _ q1 _ = H1
          obtain ⟨s1, g1⟩ := U.newF nq hX
          clear hX
          walk_at "w"
          refine ⟨q1, q, vs, _, rfl, Or.inr ⟨SqT.of g1, hq _, ?_⟩⟩
          refine RZ.for_zipT (xs := vs) (ys := ss.map V.str) (by rw [List.length_map, ← ha.len]; exact hln) (fun i σ Hj => ∃ o2 o3, σ = [some (.ref p), some (.ref q), o2, o3] ∧ Same H1 Hj ∧ FitL (xs.drop i) (ss.drop i) b) ⟨_, _, rfl, Same.refl _, hf⟩ (fun i σ Hj st => ?_) ?_ ?_
          · obtain ⟨_, _, _, sj, _⟩ := st
            exact ⟨SqT.of (sj _ _ g1), hq _⟩
          · rintro i x y F σ Hj hxi hyi ⟨o2, o3, rfl, sj, hfi⟩ nF
            generalize hX : upd Hj F _ = H3
            obtain ⟨s3, g3⟩ := U.newF nF hX
            clear hX
            obtain ⟨z, hz, isz⟩ := ha.nth hxi
            rw [List.getElem?_map] at hyi
            obtain ⟨s0, hs0, rfl⟩ := Option.map_eq_some_iff.mp hyi
            obtain ⟨hi1, ez⟩ := List.getElem?_eq_some_iff.mp hz
            obtain ⟨hi2, es⟩ := List.getElem?_eq_some_iff.mp hs0
            rw [List.drop_eq_getElem_cons hi1, List.drop_eq_getElem_cons hi2, ez, es] at hfi
            have isz3 := isz.keep ((s1.trans sj).trans s3)
            refine ⟨F, _, rfl, SqT.of g3, rfl, ?_⟩
            walk_at "w"
            rcases hfi.step with ⟨rfl, hr2⟩ | ⟨hne, hr2⟩
            · walk_at "w"
              exact ⟨sj.trans s3, hr2⟩
            · refine ifDbs (fun _ => ?_) (fun e => absurd e hne)
              walk_at "w"
              rcases hr2 with ⟨ho, hr2⟩ | ⟨ho, rfl⟩
              · refine ⟨z, _, s0, true, rfl, isz3, ho, fun H4 s4 => ?_⟩
                walk_at "w"
                exact ⟨(sj.trans s3).trans s4, hr2⟩
              · refine ⟨z, _, s0, false, rfl, isz3, ho, fun H4 s4 => ?_⟩
                walk_at "w"
                exact k H4 (((s1.trans sj).trans s3).trans s4)
          · rintro σ Hj ⟨o2, o3, rfl, sj, hfi⟩
            rw [List.drop_eq_nil_of_le (by rw [ha.len]; exact Nat.le_refl _), List.drop_eq_nil_of_le (by rw [← hln, ha.len]; exact Nat.le_refl _)] at hfi
            cases hfi
            walk_at "w"
            refine Or.inr (Or.inl ⟨_, _, _, _, rfl, rfl, (tp.keep (s1.trans sj)).1, U.atN 0 rfl rfl, ?_⟩)
            walk_at "w"
            refine ifDbs (fun _ => ?_) (fun e => absurd e hh)
            exact k Hj (s1.trans sj)
end
section
variable {P : Program} {w : World} {K : PySem.W.Frag} {mg : Str → Option Value} {base : Heap} {A : Ad}
/-- entries and what stands in them -/
inductive EntV : List PV → List PV → Prop
  | nil : EntV [] []
  | cons {l : Str} {y : PV} {es ys : List PV} (t : EntV es ys) : EntV (.tup [.str l, y] :: es) (y :: ys)
theorem EntV.nth : ∀ {es ys : List PV}, EntV es ys → ∀ {i : Nat} {x : PV}, es[i]? = some x → ∃ l y, x = .tup [.str l, y] ∧ ys[i]? = some y
  | _, _, .cons (l := l) (y := y) t, 0, x, q => by
    simp at q
    exact ⟨l, y, q.symm, rfl⟩
  | _, _, .cons t, i + 1, x, q => by
    simp at q
    obtain ⟨l, y, h1, h2⟩ := t.nth q
    exact ⟨l, y, h1, by simpa using h2⟩
theorem EntV.len : ∀ {es ys : List PV}, EntV es ys → es.length = ys.length
  | _, _, .nil => rfl
  | _, _, .cons t => congrArg (· + 1) t.len
/-- the trees within a tree -/
inductive PiD : PV → List PV → Prop
  | number (n u : PV) : PiD (.tup [.str "number", n, u]) []
  | name (z : PV) : PiD (.tup [.str "name", z]) []
  | fail (z : PV) : PiD (.tup [.str "fail", z]) []
  | fn (w b : PV) : PiD (.tup [.str "fn", w, b]) [b]
  | call (a b : PV) : PiD (.tup [.str "call", a, b]) [a, b]
  | field (r l : PV) : PiD (.tup [.str "field", r, l]) [r]
  | tag (t c : PV) : PiD (.tup [.str "tag", t, c]) [c]
  | told (t k : PV) : PiD (.tup [.str "told", t, k]) [t]
  | record {es ys : List PV} (h : EntV es ys) (l : es.length ≤ 10) : PiD (.tup [.str "record", .tup es]) ys
def spPi (K : PySem.W.Frag) : Sp := fun vs H Q _ => ∃ (x : PV) (ys : List PV) (v : V), vs = [v] ∧ Is K H x v ∧ PiD x ys ∧ ∀ H' q us, Same H H' → SqT K H' q us → IsAll K H' ys us → Q (.ref q) H'
theorem ok_parts_in (T : Top w K mg A) : FnOk P w K mg base CX0 1 A.a_parts_in A.fd_parts_in ["part"] (spPi K) := by
  refine T.F_parts_in.ok sc_parts_in (fun vs H Q E h => ?_) (fun cdv A' outer s H vs Q E hr h => ?_)
  · obtain ⟨x, ys, v, rfl, _⟩ := h
    rfl
  · obtain ⟨x, ys, v, rfl, hx, hd, k⟩ := h
    refine ⟨_, (pss_cons (ps_set (i := 1) sc_parts_in.nd rfl (Or.inl rfl) (pe_ix (U.uIx (K := K) rfl) (pv 0) pe_int (fun _ _ => rfl)))
    (pss_cons (ps_if (pt_cmpR (op_inT (K := K) (w := w) rfl rfl) (pv 1) (U.pe_con_ T.m_SPANS) rfl) (pss_cons (ps_asg (pe_ix (ix_tab (K := K) (w := w) rfl rfl) (U.pe_con_ T.m_SPANS) (pv 1) (fun _ _ => rfl)) (pg_tup rfl (pgs_cons (pg_name (i := 2) sc_parts_in.nd rfl (Or.inl rfl)) (pgs_cons (pg_name (i := 3) sc_parts_in.nd rfl (Or.inl rfl)) pgs_nil))))
    (pss_one (ps_ret (pe_slice (slA (K := K) rfl) (pv 0) (po_some (pv 2)) (po_some (pv 3)))))) pss_nil)
    (pss_cons (ps_if (pt_cmpR (U.uEq (K := K) rfl hr.units) (pv 1) pe_str (nomark _)) (pss_one (ps_ret (pe_callTy cr_tupF (by rfl) T.n_tuple (by decide +kernel) (pa_cons (pe_lc (own := [("_", 4), ("inner", 5)]) rfl sc_parts_in.nd (pi_tup (pe_ix (U.uIx (K := K) rfl) (pv 0) pe_int (fun _ _ => rfl))) (blkOk_by (own := [("_", 4), ("inner", 5)]) (N := nm_parts_in) (sc := defScope s_parts_in) (by decide +kernel)) (fun _ _ _ _ _ => (pg_tupK (K := K) (n := 2) rfl rfl (pgs_cons (pg_name (i := 4) sc_parts_in.nd rfl (Or.inl rfl)) (pgs_cons (pg_name (i := 5) sc_parts_in.nd rfl (Or.inl rfl)) pgs_nil)))) (fun _ _ _ _ _ => pts_nil) (fun _ _ _ _ _ => (pv 5))) pa_nil)))) pss_nil)
    (pss_cons (ps_if (pt_cmpR (U.uEq (K := K) rfl hr.units) (pv 1) pe_str (nomark _)) (pss_one ps_false) pss_nil)
    (pss_cons (ps_if (pt_cmpR (U.uEq (K := K) rfl hr.units) (pv 1) pe_str (nomark _)) (pss_one (ps_ret (pe_tup (pa_cons (pe_ix (U.uIx (K := K) rfl) (pv 0) pe_int (fun _ _ => rfl)) (pa_cons (pe_ix (U.uIx (K := K) rfl) (pv 0) pe_int (fun _ _ => rfl)) pa_nil))))) pss_nil)
    (pss_one (ps_ret (pe_ifExp (pt_cmpR (U.uEq (K := K) rfl hr.units) (pv 1) pe_str (nomark _)) (pe_ix (U.uIx (K := K) rfl) (pv 0) pe_int (fun _ _ => rfl)) (pv 0))))))))), ?_⟩
    cases hd with
    | number =>
      cases hx with
      | @tup p _ vs tp ha =>
        cases ha with
        | cons h0 ha =>
          cases h0
          cases ha with
          | @cons _ v1 _ _ h1 ha =>
            cases ha with
            | @cons _ v2 _ _ h2 ha =>
              cases ha
              walk_at "w"
              refine Or.inr (Or.inl ⟨_, _, _, _, rfl, rfl, tp.1, U.atN 0 rfl rfl, ?_⟩)
              walk_at "w"
              refine ⟨_, _, _, rfl, rfl, T.q_SPANS, ?_⟩
              rw [show (tabGet (kv_SPANS A) "number").isSome = true from rfl]
              walk_at "w"
              refine ⟨_, _, _, V.ref A.a_SPANS_0, rfl, rfl, T.q_SPANS, rfl, ?_⟩
              walk_at "w"
              refine ⟨A.a_SPANS_0, _, rfl, T.q_SPANS_0 _, rfl, ?_⟩
              walk_at "w"
              refine ⟨p, _, rfl, tp.1, fun e => absurd (show (3 : Nat) = 0 from e.1) (by decide), fun _ q nq => ?_⟩
              generalize hX : upd _ q _ = H1
              obtain ⟨s1, g1⟩ := U.newF nq hX
              clear hX
              exact k H1 q [] s1 (SqT.of (show H1 q = some (.tup []) from g1)) .nil
    | name =>
      cases hx with
      | @tup p _ vs tp ha =>
        cases ha with
        | cons h0 ha =>
          cases h0
          cases ha with
          | @cons _ v1 _ _ h1 ha =>
            cases ha
            walk_at "w"
            refine Or.inr (Or.inl ⟨_, _, _, _, rfl, rfl, tp.1, U.atN 0 rfl rfl, ?_⟩)
            walk_at "w"
            refine ⟨_, _, _, rfl, rfl, T.q_SPANS, ?_⟩
            rw [show (tabGet (kv_SPANS A) "name").isSome = true from rfl]
            walk_at "w"
            refine ⟨_, _, _, V.ref A.a_SPANS_1, rfl, rfl, T.q_SPANS, rfl, ?_⟩
            walk_at "w"
            refine ⟨A.a_SPANS_1, _, rfl, T.q_SPANS_1 _, rfl, ?_⟩
            walk_at "w"
            refine ⟨p, _, rfl, tp.1, fun e => absurd (show (2 : Nat) = 0 from e.1) (by decide), fun _ q nq => ?_⟩
            generalize hX : upd _ q _ = H1
            obtain ⟨s1, g1⟩ := U.newF nq hX
            clear hX
            exact k H1 q [] s1 (SqT.of (show H1 q = some (.tup []) from g1)) .nil
    | fail =>
      cases hx with
      | @tup p _ vs tp ha =>
        cases ha with
        | cons h0 ha =>
          cases h0
          cases ha with
          | @cons _ v1 _ _ h1 ha =>
            cases ha
            walk_at "w"
            refine Or.inr (Or.inl ⟨_, _, _, _, rfl, rfl, tp.1, U.atN 0 rfl rfl, ?_⟩)
            walk_at "w"
            refine ⟨_, _, _, rfl, rfl, T.q_SPANS, ?_⟩
            rw [show (tabGet (kv_SPANS A) "fail").isSome = true from rfl]
            walk_at "w"
            refine ⟨_, _, _, V.ref A.a_SPANS_2, rfl, rfl, T.q_SPANS, rfl, ?_⟩
            walk_at "w"
            refine ⟨A.a_SPANS_2, _, rfl, T.q_SPANS_2 _, rfl, ?_⟩
            walk_at "w"
            refine ⟨p, _, rfl, tp.1, fun e => absurd (show (2 : Nat) = 0 from e.1) (by decide), fun _ q nq => ?_⟩
            generalize hX : upd _ q _ = H1
            obtain ⟨s1, g1⟩ := U.newF nq hX
            clear hX
            exact k H1 q [] s1 (SqT.of (show H1 q = some (.tup []) from g1)) .nil
    | fn =>
      cases hx with
      | @tup p _ vs tp ha =>
        cases ha with
        | cons h0 ha =>
          cases h0
          cases ha with
          | @cons _ v1 _ _ h1 ha =>
            cases ha with
            | @cons _ v2 _ _ h2 ha =>
              cases ha
              walk_at "w"
              refine Or.inr (Or.inl ⟨_, _, _, _, rfl, rfl, tp.1, U.atN 0 rfl rfl, ?_⟩)
              walk_at "w"
              refine ⟨_, _, _, rfl, rfl, T.q_SPANS, ?_⟩
              rw [show (tabGet (kv_SPANS A) "fn").isSome = true from rfl]
              walk_at "w"
              refine ⟨_, _, _, V.ref A.a_SPANS_5, rfl, rfl, T.q_SPANS, rfl, ?_⟩
              walk_at "w"
              refine ⟨A.a_SPANS_5, _, rfl, T.q_SPANS_5 _, rfl, ?_⟩
              walk_at "w"
              refine ⟨p, _, rfl, tp.1, fun e => absurd (show (2 : Nat) = 0 from e.1) (by decide), fun _ q nq => ?_⟩
              generalize hX : upd _ q _ = H1
              obtain ⟨s1, g1⟩ := U.newF nq hX
              clear hX
              exact k H1 q [v2] s1 (SqT.of (show H1 q = some (.tup [v2]) from g1)) (.cons (h2.keep s1) .nil)
    | call =>
      cases hx with
      | @tup p _ vs tp ha =>
        cases ha with
        | cons h0 ha =>
          cases h0
          cases ha with
          | @cons _ v1 _ _ h1 ha =>
            cases ha with
            | @cons _ v2 _ _ h2 ha =>
              cases ha
              walk_at "w"
              refine Or.inr (Or.inl ⟨_, _, _, _, rfl, rfl, tp.1, U.atN 0 rfl rfl, ?_⟩)
              walk_at "w"
              refine ⟨_, _, _, rfl, rfl, T.q_SPANS, ?_⟩
              rw [show (tabGet (kv_SPANS A) "call").isSome = true from rfl]
              walk_at "w"
              refine ⟨_, _, _, V.ref A.a_SPANS_6, rfl, rfl, T.q_SPANS, rfl, ?_⟩
              walk_at "w"
              refine ⟨A.a_SPANS_6, _, rfl, T.q_SPANS_6 _, rfl, ?_⟩
              walk_at "w"
              refine ⟨p, _, rfl, tp.1, fun e => absurd (show (1 : Nat) = 0 from e.1) (by decide), fun _ q nq => ?_⟩
              generalize hX : upd _ q _ = H1
              obtain ⟨s1, g1⟩ := U.newF nq hX
              clear hX
              exact k H1 q [v1, v2] s1 (SqT.of (show H1 q = some (.tup [v1, v2]) from g1)) (.cons (h1.keep s1) (.cons (h2.keep s1) .nil))
    | field =>
      cases hx with
      | @tup p _ vs tp ha =>
        cases ha with
        | cons h0 ha =>
          cases h0
          cases ha with
          | @cons _ v1 _ _ h1 ha =>
            cases ha with
            | @cons _ v2 _ _ h2 ha =>
              cases ha
              walk_at "w"
              refine Or.inr (Or.inl ⟨_, _, _, _, rfl, rfl, tp.1, U.atN 0 rfl rfl, ?_⟩)
              walk_at "w"
              refine ⟨_, _, _, rfl, rfl, T.q_SPANS, ?_⟩
              rw [show (tabGet (kv_SPANS A) "field").isSome = true from rfl]
              walk_at "w"
              refine ⟨_, _, _, V.ref A.a_SPANS_9, rfl, rfl, T.q_SPANS, rfl, ?_⟩
              walk_at "w"
              refine ⟨A.a_SPANS_9, _, rfl, T.q_SPANS_9 _, rfl, ?_⟩
              walk_at "w"
              refine ⟨p, _, rfl, tp.1, fun e => absurd (show (1 : Nat) = 0 from e.1) (by decide), fun _ q nq => ?_⟩
              generalize hX : upd _ q _ = H1
              obtain ⟨s1, g1⟩ := U.newF nq hX
              clear hX
              exact k H1 q [v1] s1 (SqT.of (show H1 q = some (.tup [v1]) from g1)) (.cons (h1.keep s1) .nil)
    | tag =>
      cases hx with
      | @tup p _ vs tp ha =>
        cases ha with
        | cons h0 ha =>
          cases h0
          cases ha with
          | @cons _ v1 _ _ h1 ha =>
            cases ha with
            | @cons _ v2 _ _ h2 ha =>
              cases ha
              walk_at "w"
              refine Or.inr (Or.inl ⟨_, _, _, _, rfl, rfl, tp.1, U.atN 0 rfl rfl, ?_⟩)
              walk_at "w"
              refine ⟨_, _, _, rfl, rfl, T.q_SPANS, ?_⟩
              rw [show (tabGet (kv_SPANS A) "tag").isSome = true from rfl]
              walk_at "w"
              refine ⟨_, _, _, V.ref A.a_SPANS_10, rfl, rfl, T.q_SPANS, rfl, ?_⟩
              walk_at "w"
              refine ⟨A.a_SPANS_10, _, rfl, T.q_SPANS_10 _, rfl, ?_⟩
              walk_at "w"
              refine ⟨p, _, rfl, tp.1, fun e => absurd (show (2 : Nat) = 0 from e.1) (by decide), fun _ q nq => ?_⟩
              generalize hX : upd _ q _ = H1
              obtain ⟨s1, g1⟩ := U.newF nq hX
              clear hX
              exact k H1 q [v2] s1 (SqT.of (show H1 q = some (.tup [v2]) from g1)) (.cons (h2.keep s1) .nil)
    | told =>
      cases hx with
      | @tup p _ vs tp ha =>
        cases ha with
        | cons h0 ha =>
          cases h0
          cases ha with
          | @cons _ v1 _ _ h1 ha =>
            cases ha with
            | @cons _ v2 _ _ h2 ha =>
              cases ha
              walk_at "w"
              refine Or.inr (Or.inl ⟨_, _, _, _, rfl, rfl, tp.1, U.atN 0 rfl rfl, ?_⟩)
              walk_at "w"
              refine ⟨_, _, _, rfl, rfl, T.q_SPANS, ?_⟩
              rw [show (tabGet (kv_SPANS A) "told").isSome = true from rfl]
              walk_at "w"
              refine ⟨_, _, _, V.ref A.a_SPANS_12, rfl, rfl, T.q_SPANS, rfl, ?_⟩
              walk_at "w"
              refine ⟨A.a_SPANS_12, _, rfl, T.q_SPANS_12 _, rfl, ?_⟩
              walk_at "w"
              refine ⟨p, _, rfl, tp.1, fun e => absurd (show (1 : Nat) = 0 from e.1) (by decide), fun _ q nq => ?_⟩
              generalize hX : upd _ q _ = H1
              obtain ⟨s1, g1⟩ := U.newF nq hX
              clear hX
              exact k H1 q [v1] s1 (SqT.of (show H1 q = some (.tup [v1]) from g1)) (.cons (h1.keep s1) .nil)
    | record he hl =>
      cases hx with
      | @tup p _ vs tp ha =>
        cases ha with
        | cons h0 ha =>
          cases h0
          cases ha with
          | @cons _ v1 _ _ h1 ha =>
            cases ha
            cases h1 with
            | @tup p1 _ vs1 tp1 ha1 =>
              walk_at "w"
              refine Or.inr (Or.inl ⟨_, _, _, _, rfl, rfl, tp.1, U.atN 0 rfl rfl, ?_⟩)
              walk_at "w"
              refine ⟨_, _, _, rfl, rfl, T.q_SPANS, ?_⟩
              rw [show (tabGet (kv_SPANS A) "record").isSome = false from rfl]
              walk_at "w"
              refine Or.inr (Or.inl ⟨_, _, _, _, rfl, rfl, tp.1, U.atN 1 rfl rfl, ?_⟩)
              walk_at "w"
              refine ⟨⟨_, tp1.1⟩, fun D nD => ?_⟩
              refine lc_tup (xs := vs1) (fun i Hj => ∃ us, Hj D = some (.lst us) ∧ us.length = i ∧ IsAll K Hj (ys.take i) us ∧ Same H Hj) ⟨[], upd_same, rfl, .nil, same_new nD⟩ (fun i Hj _ st => ?_) ?_ ?_
              · obtain ⟨_, _, _, _, sj⟩ := st
                exact (tp1.keep sj).1
              · rintro i x Hj hx ⟨us, gD, hul, hu, sj⟩
                obtain ⟨e, hei, ise⟩ := ha1.nth hx
                obtain ⟨lb, y, rfl, hyi⟩ := he.nth hei
                have ise := ise.keep sj
                have hi10 : i < 10 := by
                  have := (List.getElem?_eq_some_iff.mp hei).1
                  omega
                cases ise with
                | @tup pe _ ve te hae =>
                  cases hae with
                  | cons e0 hae =>
                    cases e0
                    cases hae with
                    | @cons _ vy _ _ e1 hae =>
                      cases hae
                      refine ⟨pe, _, rfl, te.1, rfl, ?_⟩
                      walk_at "w"
                      refine ⟨rfl, ?_⟩
                      walk_at "w"
                      have L6 : Lst Hj (upd Hj D (.lst (us ++ [vy]))) := .but (U.SameBut.refl _ _).upd ⟨_, gD⟩ ⟨_, upd_same⟩
                      refine ⟨us, gD, U.szl (by omega), us ++ [vy], upd_same, by rw [List.length_append, hul] <;> rfl, ?_, fun c o q => by rw [upd_ne (fun z => by rw [z, nD] at q; cases q)]; exact sj c o q⟩
                      rw [List.take_add_one, hyi]
                      exact (IsAll.lst L6 hu).app (.cons (e1.lst L6) .nil)
              · rintro Hj ⟨us, gD, hul, hu, sj⟩
                walk_at "w"
                refine ⟨D, _, rfl, SqL.of gD, ?_⟩
                intro q _ ocq odq nq; generalize hX : upd _ q _ = H2; obtain ⟨s2, g2⟩ := U.newF nq hX; clear hX
                have hyl : ys.length = vs1.length := by rw [← he.len, ha1.len]
                rw [← hyl, List.take_length] at hu
                exact k H2 q us (sj.trans s2) (.inl (.inr ⟨_, g2⟩)) (hu.keep s2)
end
section
variable {P : Program} {w : World} {K : PySem.W.Frag} {mg : Str → Option Value} {base : Heap} {A : Ad}
def shTab : List (Str × List Str) := [("number", ["count", "unit"]), ("name", ["word"]), ("fail", ["word"]), ("fn", ["word", "tree"]), ("call", ["tree", "tree"]), ("record", ["entries"]), ("field", ["tree", "word"]), ("tag", ["tag", "tree"]), ("told", ["tree", "kind"])]
theorem shape_at (T : Top w K mg A) {h : Str} {ss : List Str} (m : (h, ss) ∈ shTab) : ∃ q, tabGet (kv_TREES A) h = some (V.ref q) ∧ ∀ H, SqT K H q (ss.map V.str) := by
  simp only [shTab, List.mem_cons, List.not_mem_nil, or_false, Prod.mk.injEq] at m
  rcases m with ⟨rfl, rfl⟩ | ⟨rfl, rfl⟩ | ⟨rfl, rfl⟩ | ⟨rfl, rfl⟩ | ⟨rfl, rfl⟩ | ⟨rfl, rfl⟩ | ⟨rfl, rfl⟩ | ⟨rfl, rfl⟩ | ⟨rfl, rfl⟩
  · exact ⟨_, rfl, T.q_TREES_0⟩
  · exact ⟨_, rfl, T.q_TREES_1⟩
  · exact ⟨_, rfl, T.q_TREES_2⟩
  · exact ⟨_, rfl, T.q_TREES_3⟩
  · exact ⟨_, rfl, T.q_TREES_4⟩
  · exact ⟨_, rfl, T.q_TREES_7⟩
  · exact ⟨_, rfl, T.q_TREES_9⟩
  · exact ⟨_, rfl, T.q_TREES_10⟩
  · exact ⟨_, rfl, T.q_TREES_13⟩
theorem sh_heads {h : Str} {ss : List Str} (m : (h, ss) ∈ shTab) : h ≠ "rec" ∧ h ≠ "match" ∧ ss.length ≤ 10 := by
  have : ∀ p ∈ shTab, p.1 ≠ "rec" ∧ p.1 ≠ "match" ∧ p.2.length ≤ 10 := by decide +kernel
  exact this _ m
/-- what a tree's judge finds within a value -/
inductive ShD : PV → Option (List PV) → Prop
  | noTup {x : PV} (h : x.isTup = false) : ShD x none
  | empty : ShD (.tup []) none
  | no {h : Str} {ss : List Str} {xs : List PV} (m : (h, ss) ∈ shTab) (l : xs.length ≤ 10) (f : xs.length ≠ ss.length ∨ FitL xs ss false) : ShD (.tup (.str h :: xs)) none
  | yes {h : Str} {ss : List Str} {xs ys : List PV} (m : (h, ss) ∈ shTab) (l : xs.length ≤ 10) (f : FitL xs ss true) (p : PiD (.tup (.str h :: xs)) ys) : ShD (.tup (.str h :: xs)) (some ys)
def spSh (K : PySem.W.Frag) : Sp := fun vs H Q _ => ∃ (x : PV) (v : V) (o : Option (List PV)), vs = [v, .bl false] ∧ Is K H x v ∧ ShD x o ∧ (o = none → ∀ H', Same H H' → Q .non H') ∧ ∀ ys, o = some ys → ∀ H' q us, Same H H' → SqT K H' q us → IsAll K H' ys us → Q (.ref q) H'
theorem ok_shaped (T : Top w K mg A) : FnOk P w K mg base CX0 12 A.a_shaped A.fd_shaped ["value", "patterns"] (spSh K) := by
  refine T.F_shaped.ok sc_shaped (fun vs H Q E h => ?_) (fun cdv A' outer s H vs Q E hr h => ?_)
  · obtain ⟨x, v, o, rfl, _⟩ := h
    rfl
  · obtain ⟨x, v, o, rfl, hx, hd, k1, k2⟩ := h
    refine ⟨_, (pss_cons (ps_if (PW.pt (pw_or (pt_not (pt_val (pe_callB call_isi (by rfl) T.n_isinstance (by decide +kernel) (pa_cons (pv 0) (pa_cons (pe_bltn (v := .ty "tuple") (by rfl) T.n_tuple (by decide +kernel) rfl) pa_nil))))) (pw_or (pt_cmpR (op_eqE (Nat.lt_of_le_of_lt (Nat.le_add_right _ 64) hr.units)) (pv 0) (pe_tupF pa_nil) (nomark _)) (pw_or1 (pt_not (pt_val (pe_callB call_isi (by rfl) T.n_isinstance (by decide +kernel) (pa_cons (pe_ix (U.uIx (K := K) rfl) (pv 0) pe_int (fun _ _ => rfl)) (pa_cons (pe_bltn (v := .ty "str") (by rfl) T.n_str (by decide +kernel) rfl) pa_nil))))))))) (pss_one (ps_ret pe_non)) pss_nil)
    (pss_cons (ps_set (i := 2) sc_shaped.nd rfl (Or.inl rfl) (pe_ifExp (pt_val (pv 1)) (pe_getT (K := K) (w := w) rfl rfl (U.pe_con_ T.m_PATTERNS) (pe_ix (U.uIx (K := K) rfl) (pv 0) pe_int (fun _ _ => rfl)) ⟨rfl, rfl, rfl, rfl⟩) (pe_getT (K := K) (w := w) rfl rfl (U.pe_con_ T.m_TREES) (pe_ix (U.uIx (K := K) rfl) (pv 0) pe_int (fun _ _ => rfl)) ⟨rfl, rfl, rfl, rfl⟩)))
    (pss_cons (ps_if (PW.pt (pw_or (pt_cmpR op_isN (pv 2) pe_non (nomark _)) (pw_or1 (pt_not (pt_val (pe_call (ok_fits_shape T) (hr.mono (by decide)) rfl T.m_fits_shape T.F_fits_shape.kp T.b_fits_shape .nil pass0 (pa_cons (pv 0) (pa_cons (pv 2) pa_nil)))))))) (pss_one (ps_ret pe_non)) pss_nil)
    (pss_cons (ps_if (pt_cmpR (U.uEq (K := K) rfl hr.units) (pe_ix (U.uIx (K := K) rfl) (pv 0) pe_int (fun _ _ => rfl)) pe_str (nomark _)) (pss_one (ps_ret (pe_op U.uAdd (pe_lst (pa_cons (pe_ix (U.uIx (K := K) rfl) (pv 0) pe_int (fun _ _ => rfl)) pa_nil)) (pe_lc (own := [("row", 3)]) rfl sc_shaped.nd (pi_list (pe_ix (U.uIx (K := K) rfl) (pv 0) pe_int (fun _ _ => rfl))) (blkOk_by (own := [("row", 3)]) (N := nm_shaped) (sc := defScope s_shaped) (by decide +kernel)) (fun _ _ _ _ _ => (pg_name (i := 3) sc_shaped.nd rfl (Or.inl rfl))) (fun _ _ _ _ _ => pts_nil) (fun _ _ _ _ _ => (pe_ix (U.uIx (K := K) rfl) (pv 3) pe_int (fun _ _ => rfl))))))) pss_nil)
    (pss_one (ps_ret (pe_call (ok_parts_in T) (hr.mono (by decide)) rfl T.m_parts_in T.F_parts_in.kp T.b_parts_in .nil pass0 (pa_cons (pv 0) pa_nil)))))))), ?_⟩
    walk_at "w"
    obtain ⟨t, ty, kt⟩ := hx.ty
    refine ⟨_, _, _, _, _, rfl, .ty _, ty, kt.1, ?_⟩
    cases hd with
    | noTup hn =>
      rw [hn]
      walk_at "w"
      exact k1 rfl H (Same.refl _)
    | empty =>
      cases hx with
      | @tup p _ vs tp ha =>
        cases ha
        walk_at "w"
        intro q _ ocq odq nq; generalize hX : upd _ q _ = H1; obtain ⟨s1, g1⟩ := U.newF nq hX; clear hX
        refine ⟨p, q, _, rfl, rfl, (tp.keep s1).1, .inl (.inr ⟨_, g1⟩), ?_⟩
        walk_at "w"
        exact k1 rfl H1 s1
    | no m l f =>
      have hx0 := hx
      cases hx with
      | @tup p _ vs tp ha =>
        cases ha with
        | @cons _ v0 _ vs h0 ha =>
          cases h0
          walk_at "w"
          intro q _ ocq odq nq; generalize hX : upd _ q _ = H1; obtain ⟨s1, g1⟩ := U.newF nq hX; clear hX
          have hx1 := hx0.keep s1
          refine ⟨p, q, _, rfl, rfl, (tp.keep s1).1, .inl (.inr ⟨_, g1⟩), ?_⟩
          walk_at "w"
          refine Or.inr (Or.inl ⟨_, _, _, _, rfl, rfl, (tp.keep s1).1, U.atN 0 rfl rfl, ?_⟩)
          walk_at "w"
          refine ⟨_, _, _, _, _, rfl, .ty _, .base (.str _), kt_str.2.1, ?_⟩
          walk_at "w"
          obtain ⟨qs, hq1, hq2⟩ := shape_at T m
          obtain ⟨hr1, hr2, hl2⟩ := sh_heads m
          refine ⟨_, _, rfl, T.q_TREES, ?_⟩
          walk_at "w"
          refine Or.inr (Or.inl ⟨_, _, _, _, rfl, rfl, (tp.keep s1).1, U.atN 0 rfl rfl, ?_⟩)
          refine ⟨_, rfl, ?_⟩
          rw [hq1]
          walk_at "w"
          refine ⟨_, _, _, qs, _, false, rfl, hx1, hq2, hr1, hl2, l, f.elim (fun e => .inl ⟨e, rfl⟩) .inr, fun H2 s2 => ?_⟩
          walk_at "w"
          exact k1 rfl H2 (s1.trans s2)
    | yes m l f pd =>
      have hx0 := hx
      cases hx with
      | @tup p _ vs tp ha =>
        cases ha with
        | @cons _ v0 _ vs h0 ha =>
          cases h0
          walk_at "w"
          intro q _ ocq odq nq; generalize hX : upd _ q _ = H1; obtain ⟨s1, g1⟩ := U.newF nq hX; clear hX
          have hx1 := hx0.keep s1
          refine ⟨p, q, _, rfl, rfl, (tp.keep s1).1, .inl (.inr ⟨_, g1⟩), ?_⟩
          walk_at "w"
          refine Or.inr (Or.inl ⟨_, _, _, _, rfl, rfl, (tp.keep s1).1, U.atN 0 rfl rfl, ?_⟩)
          walk_at "w"
          refine ⟨_, _, _, _, _, rfl, .ty _, .base (.str _), kt_str.2.1, ?_⟩
          walk_at "w"
          obtain ⟨qs, hq1, hq2⟩ := shape_at T m
          obtain ⟨hr1, hr2, hl2⟩ := sh_heads m
          refine ⟨_, _, rfl, T.q_TREES, ?_⟩
          walk_at "w"
          refine Or.inr (Or.inl ⟨_, _, _, _, rfl, rfl, (tp.keep s1).1, U.atN 0 rfl rfl, ?_⟩)
          refine ⟨_, rfl, ?_⟩
          rw [hq1]
          walk_at "w"
          refine ⟨_, _, _, qs, _, true, rfl, hx1, hq2, hr1, hl2, l, .inr f, fun H2 s2 => ?_⟩
          walk_at "w"
          refine Or.inr (Or.inl ⟨_, _, _, _, rfl, rfl, (tp.keep (s1.trans s2)).1, U.atN 0 rfl rfl, ?_⟩)
          walk_at "w"
          refine U.ifDs (fun e => absurd e hr2) (fun _ => ?_)
          walk_at "w"
          exact ⟨_, _, _, rfl, hx1.keep s2, pd, fun H3 q us s3 hq hu => k2 _ rfl H3 q us ((s1.trans s2).trans s3) hq hu⟩
end
theorem sizes_app : ∀ xs ys : List PV, PV.sizes (xs ++ ys) = PV.sizes xs + PV.sizes ys
  | [], ys => (Nat.zero_add _).symm
  | x :: r, ys => by
    show PV.size x + PV.sizes (r ++ ys) = PV.size x + PV.sizes r + PV.sizes ys
    rw [sizes_app r ys, Nat.add_assoc]
theorem sizes_rev : ∀ xs : List PV, PV.sizes xs.reverse = PV.sizes xs
  | [] => rfl
  | x :: r => by
    rw [List.reverse_cons, sizes_app, sizes_rev r]
    show _ + (PV.size x + 0) = PV.size x + PV.sizes r
    omega
theorem size_pos : ∀ x : PV, 0 < x.size
  | .tup xs => Nat.succ_pos _
  | .non => Nat.one_pos
  | .bl _ => Nat.one_pos
  | .int _ => Nat.one_pos
  | .str _ => Nat.one_pos
  | .oth => Nat.one_pos
theorem len_sizes : ∀ xs : List PV, xs.length ≤ PV.sizes xs
  | [] => Nat.le_refl _
  | x :: r => by
    have := len_sizes r
    have := size_pos x
    show r.length + 1 ≤ PV.size x + PV.sizes r
    omega
theorem EntV.size : ∀ {es ys : List PV}, EntV es ys → PV.sizes ys ≤ PV.sizes es
  | _, _, .nil => Nat.le_refl _
  | _, _, .cons (y := y) (es := es) (ys := ys) t => by
    have := t.size
    show PV.size y + PV.sizes ys ≤ ((1 + (PV.size y + 0)) + 1) + PV.sizes es
    omega
theorem PiD.size {x : PV} {ys : List PV} (h : PiD x ys) : PV.sizes ys < x.size := by
  cases h with
  | number n u => exact size_pos _
  | name z => exact size_pos _
  | fail z => exact size_pos _
  | fn w b => show b.size + 0 < 1 + (w.size + (b.size + 0)) + 1; omega
  | call a b => show a.size + (b.size + 0) < 1 + (a.size + (b.size + 0)) + 1; omega
  | field r l => show r.size + 0 < 1 + (r.size + (l.size + 0)) + 1; omega
  | tag t c => show c.size + 0 < 1 + (t.size + (c.size + 0)) + 1; omega
  | told t k => show t.size + 0 < 1 + (t.size + (k.size + 0)) + 1; omega
  | record he l =>
    rename_i es
    have := he.size
    show PV.sizes ys < 1 + (PV.sizes es + 1 + 0) + 1
    omega
mutual
/-- is a value a tree -/
inductive TrD : PV → Bool → Prop
  | bad {x : PV} (h : ShD x none) : TrD x false
  | good {x : PV} {ys : List PV} {b : Bool} (h : ShD x (some ys)) (s : PV.sizes ys < x.size) (t : TrL ys b) : TrD x b
inductive TrL : List PV → Bool → Prop
  | nil : TrL [] true
  | cons {x : PV} {xs : List PV} {b c : Bool} (h : TrD x b) (t : TrL xs c) : TrL (x :: xs) (b && c)
end
theorem TrL.app : ∀ {xs ys : List PV} {b c : Bool}, TrL xs b → TrL ys c → TrL (xs ++ ys) (b && c)
  | _, _, _, _, .nil, h => by rw [Bool.true_and]; exact h
  | _, _, _, _, .cons h t, k => by rw [Bool.and_assoc]; exact .cons h (t.app k)
theorem TrL.rev : ∀ {xs : List PV} {b : Bool}, TrL xs b → TrL xs.reverse b
  | _, _, .nil => .nil
  | _, _, .cons (b := b) (c := c) h t => by
    rw [List.reverse_cons, Bool.and_comm]
    have := t.rev.app (.cons h .nil)
    rw [Bool.and_true] at this
    exact this
section
variable {P : Program} {w : World} {K : PySem.W.Frag} {mg : Str → Option Value} {base : Heap} {A : Ad}
theorem IsAll.rev {H : Hp} : ∀ {xs : List PV} {vs : List V}, IsAll K H xs vs → IsAll K H xs.reverse vs.reverse
  | _, _, .nil => .nil
  | _, _, .cons h t => by
    rw [List.reverse_cons, List.reverse_cons]
    exact t.rev.app (.cons h .nil)
theorem ok_is_tree (T : Top w K mg A) : FnOk P w K mg base CX0 13 A.a_is_tree A.fd_is_tree ["value"] (fun vs H Q _ => ∃ x v b, vs = [v] ∧ Is K H x v ∧ TrD x b ∧ x.size ≤ 10000 ∧ ∀ H', Same H H' → Q (.bl b) H') := by
  refine T.F_is_tree.ok sc_is_tree (fun vs H Q E h => ?_) (fun cdv A' outer s H vs Q E hr h => ?_)
  · obtain ⟨x, v, b, rfl, _⟩ := h
    rfl
  · obtain ⟨x, v, b, rfl, hx, hd, hsz, k⟩ := h
    refine ⟨_, (pss_cons (ps_set (i := 1) sc_is_tree.nd rfl (Or.inl rfl) (pe_lst (pa_cons (pv 0) pa_nil)))
    (pss_cons (ps_while PassesOwn.never (pt_lst (K := K) rfl (pv 1) (fun _ => rfl)) (pss_cons (ps_set (i := 2) sc_is_tree.nd rfl (Or.inl rfl) (pe_call (ok_shaped T) (hr.mono (by decide)) rfl T.m_shaped T.F_shaped.kp T.b_shaped .nil pass0 (pa_cons (pe_bm0 PySem.F.plainAttrs_list PySem.F.slot_list_pop PySem.F.type_list_pop mt_pop (pv 1)) (pa_cons pe_bl pa_nil))))
    (pss_cons (ps_if (pt_cmpR op_isN (pv 2) pe_non (nomark _)) (pss_one (ps_ret pe_bl)) pss_nil)
    (pss_one (ps_expr (pe_bm PySem.F.plainAttrs_list PySem.F.slot_list_extend PySem.F.type_list_extend (mt_extU (K := K) rfl) (pv 1) (pa_cons (pv 2) pa_nil)))))))
    (pss_one (ps_ret pe_bl)))), ?_⟩
    walk_at "w"
    intro D nD; generalize hX : upd _ D _ = H1; obtain ⟨s1, g1⟩ := U.newF nD hX; clear hX
    walk_at "w"
    refine ⟨fun m σ H' => ∃ (xs : List PV) (us : List V) (o2 : Option V), PV.sizes xs ≤ m ∧ m ≤ 10000 ∧ σ = [some v, some (.ref D), o2] ∧ H' D = some (.lst us.reverse) ∧ IsAll K H' xs us ∧ U.SameBut D H1 H' ∧ TrL xs b,
      ⟨x.size, [x], [v], _, (by show x.size + 0 ≤ x.size; omega), hsz, rfl, g1, .cons (hx.keep s1) .nil, U.SameBut.refl _ _, (by have := TrL.cons hd .nil; rw [Bool.and_true] at this; exact this)⟩, ?_⟩
    rintro m σ H' ⟨xs, us, o2, hw, hm, rfl, gD, ha, sb, ht⟩
    walk_at "w"
    refine ⟨D, _, rfl, SqL.of gD, ?_⟩
    cases ha with
    | nil =>
      walk_at "w"
      cases ht
      exact k H' (U.Same.but s1 sb nD)
    | @cons x1 u1 xr ur h1 hr1 =>
      rw [show (!(u1 :: ur).reverse.isEmpty) = true from by rw [List.reverse_cons]; cases ur.reverse <;> rfl]
      have hp := size_pos x1
      have hw : x1.size + PV.sizes xr ≤ m := hw
      refine ⟨fun σ' H2 => _, fun σ' H2 q => ⟨m - 1, by omega, q⟩, ?_⟩
      walk_at "w"
      refine rPop_rev gD ?_
      have L3 : Lst H' (upd H' D (.lst ur.reverse)) := .but (U.SameBut.refl _ _).upd ⟨_, gD⟩ ⟨_, upd_same⟩
      have sb3 : U.SameBut D H1 (upd H' D (.lst ur.reverse)) := sb.upd
      have g3 : (upd H' D (.lst ur.reverse)) D = some (.lst ur.reverse) := upd_same
      generalize upd H' D (.lst ur.reverse) = H3 at L3 sb3 g3 ⊢
      have h13 := h1.lst L3
      have hr3 := IsAll.lst L3 hr1
      walk_at "w"
      have s03 : Same H H3 := U.Same.but s1 sb3 nD
      cases ht with
      | cons hx1 ht2 =>
        cases hx1 with
        | bad hs =>
          refine ⟨x1, u1, none, rfl, h13, hs, fun _ H4 s4 => ?_, fun ys e => by cases e⟩
          walk_at "w"
          exact k H4 (s03.trans s4)
        | good hs hsz2 ht3 =>
          rename_i _ ys
          refine ⟨x1, u1, some ys, rfl, h13, hs, (fun e => by cases e), fun zs e H4 q uz s4 hq hu => ?_⟩
          cases e
          have g34 := s4 _ _ g3
          walk_at "w"
          have hlz := len_sizes ys
          have hlr := len_sizes xr
          rw [hu.len] at hlz
          rw [hr3.len] at hlr
          refine ⟨D, q, _, _, rfl, rfl, g34, .inr hq, by rw [List.length_reverse, PySem.sizeLine_eq]; omega, ?_⟩
          have L5 : Lst H4 (upd H4 D (.lst (ur.reverse ++ uz))) := .but (U.SameBut.refl _ _).upd ⟨_, g34⟩ ⟨_, upd_same⟩
          refine ⟨ys.reverse ++ xr, uz.reverse ++ ur, _, ?_, by omega, rfl, ?_, ?_, ((sb3.trans (.of s4)).upd), ht3.rev.app ht2⟩
          · rw [sizes_app, sizes_rev]
            omega
          · rw [List.reverse_append, List.reverse_reverse]
            exact upd_same
          · exact IsAll.lst L5 (hu.rev.app (hr3.keep s4))
end
mutual
/-- has a tree the form of a value -/
inductive VsD : PV → Bool → Prop
  | leaf {h : Str} {xs : List PV} (m : h = "number" ∨ h = "fn") : VsD (.tup (.str h :: xs)) true
  | other {h : Str} {xs : List PV} (n : h ≠ "record" ∧ h ≠ "tag" ∧ h ≠ "number" ∧ h ≠ "fn") (l : h.length ≤ 100) : VsD (.tup (.str h :: xs)) false
  | tag {t c : PV} {b : Bool} (h : VsD c b) : VsD (.tup [.str "tag", t, c]) b
  | record {es ys : List PV} {b : Bool} (e : EntV es ys) (l : es.length ≤ 10) (h : VsL ys b) : VsD (.tup [.str "record", .tup es]) b
inductive VsL : List PV → Bool → Prop
  | nil : VsL [] true
  | cons {x : PV} {xs : List PV} {b c : Bool} (h : VsD x b) (t : VsL xs c) : VsL (x :: xs) (b && c)
end
theorem VsL.app : ∀ {xs ys : List PV} {b c : Bool}, VsL xs b → VsL ys c → VsL (xs ++ ys) (b && c)
  | _, _, _, _, .nil, h => by rw [Bool.true_and]; exact h
  | _, _, _, _, .cons h t, k => by rw [Bool.and_assoc]; exact .cons h (t.app k)
theorem VsL.rev : ∀ {xs : List PV} {b : Bool}, VsL xs b → VsL xs.reverse b
  | _, _, .nil => .nil
  | _, _, .cons (b := b) (c := c) h t => by
    rw [List.reverse_cons, Bool.and_comm]
    have := t.rev.app (.cons h .nil)
    rw [Bool.and_true] at this
    exact this
section
variable {P : Program} {w : World} {K : PySem.W.Frag} {mg : Str → Option Value} {base : Heap} {A : Ad}
set_option maxHeartbeats 1000000 in
theorem ok_is_value_shape (T : Top w K mg A) : FnOk P w K mg base CX0 1 A.a_is_value_shape A.fd_is_value_shape ["tree"] (fun vs H Q _ => ∃ x v b, vs = [v] ∧ Is K H x v ∧ VsD x b ∧ x.size ≤ 10000 ∧ ∀ H', Same H H' → Q (.bl b) H') := by
  refine T.F_is_value_shape.ok sc_is_value_shape (fun vs H Q E h => ?_) (fun cdv A' outer s H vs Q E hr h => ?_)
  · obtain ⟨x, v, b, rfl, _⟩ := h
    rfl
  · obtain ⟨x, v, b, rfl, hx, hd, hsz, k⟩ := h
    refine ⟨_, (pss_cons (ps_set (i := 1) sc_is_value_shape.nd rfl (Or.inl rfl) (pe_lst (pa_cons (pv 0) pa_nil)))
    (pss_cons (ps_while PassesOwn.never (pt_lst (K := K) rfl (pv 1) (fun _ => rfl)) (pss_cons (ps_set (i := 2) sc_is_value_shape.nd rfl (Or.inl rfl) (pe_bm0 PySem.F.plainAttrs_list PySem.F.slot_list_pop PySem.F.type_list_pop mt_pop (pv 1)))
    (pss_one (ps_if (pt_cmpR (U.uEq (K := K) rfl hr.units) (pe_ix (U.uIx (K := K) rfl) (pv 2) pe_int (fun _ _ => rfl)) pe_str (nomark _)) (pss_one (ps_expr (pe_bm PySem.F.plainAttrs_list PySem.F.slot_list_extend PySem.F.type_list_extend (mt_extU (K := K) rfl) (pv 1) (pa_cons (pe_lc (own := [("_", 3), ("inner", 4)]) rfl sc_is_value_shape.nd (pi_tup (pe_ix (U.uIx (K := K) rfl) (pv 2) pe_int (fun _ _ => rfl))) (blkOk_by (own := [("_", 3), ("inner", 4)]) (N := nm_is_value_shape) (sc := defScope s_is_value_shape) (by decide +kernel)) (fun _ _ _ _ _ => (pg_tupK (K := K) (n := 2) rfl rfl (pgs_cons (pg_name (i := 3) sc_is_value_shape.nd rfl (Or.inl rfl)) (pgs_cons (pg_name (i := 4) sc_is_value_shape.nd rfl (Or.inl rfl)) pgs_nil)))) (fun _ _ _ _ _ => pts_nil) (fun _ _ _ _ _ => (pv 4))) pa_nil)))) (pss_one (ps_if (pt_cmpR (U.uEq (K := K) rfl hr.units) (pe_ix (U.uIx (K := K) rfl) (pv 2) pe_int (fun _ _ => rfl)) pe_str (nomark _)) (pss_one (ps_expr (pe_bm PySem.F.plainAttrs_list PySem.F.slot_list_append PySem.F.type_list_append mt_append (pv 1) (pa_cons (pe_ix (U.uIx (K := K) rfl) (pv 2) pe_int (fun _ _ => rfl)) pa_nil)))) (pss_one (ps_if (pt_cmpR (U.uNotIn (K := K) rfl) (pe_ix (U.uIx (K := K) rfl) (pv 2) pe_int (fun _ _ => rfl)) (pe_tup (pa_cons pe_str (pa_cons pe_str pa_nil))) rfl) (pss_one (ps_ret pe_bl)) pss_nil))))))))
    (pss_one (ps_ret pe_bl)))), ?_⟩
    walk_at "w"
    intro D nD; generalize hX : upd _ D _ = H1; obtain ⟨s1, g1⟩ := U.newF nD hX; clear hX
    walk_at "w"
    refine ⟨fun m σ H' => ∃ (xs : List PV) (us : List V) (o2 o3 o4 : Option V), PV.sizes xs ≤ m ∧ m ≤ 10000 ∧ σ = [some v, some (.ref D), o2, o3, o4] ∧ H' D = some (.lst us.reverse) ∧ IsAll K H' xs us ∧ U.SameBut D H1 H' ∧ VsL xs b,
      ⟨x.size, [x], [v], _, _, _, (by show x.size + 0 ≤ x.size; omega), hsz, rfl, g1, .cons (hx.keep s1) .nil, U.SameBut.refl _ _, (by have := VsL.cons hd .nil; rw [Bool.and_true] at this; exact this)⟩, ?_⟩
    rintro m σ H' ⟨xs, us, o2, o3, o4, hw, hm, rfl, gD, ha, sb, ht⟩
    walk_at "w"
    refine ⟨D, _, rfl, SqL.of gD, ?_⟩
    cases ha with
    | nil =>
      walk_at "w"
      cases ht
      exact k H' (U.Same.but s1 sb nD)
    | @cons x1 u1 xr ur h1 hr1 =>
      rw [show (!(u1 :: ur).reverse.isEmpty) = true from by rw [List.reverse_cons]; cases ur.reverse <;> rfl]
      have hp := size_pos x1
      have hw : x1.size + PV.sizes xr ≤ m := hw
      refine ⟨fun σ' H2 => _, fun σ' H2 q => ⟨m - 1, by omega, q⟩, ?_⟩
      walk_at "w"
      refine rPop_rev gD ?_
      have L3 : Lst H' (upd H' D (.lst ur.reverse)) := .but (U.SameBut.refl _ _).upd ⟨_, gD⟩ ⟨_, upd_same⟩
      have sb3 : U.SameBut D H1 (upd H' D (.lst ur.reverse)) := sb.upd
      have g3 : (upd H' D (.lst ur.reverse)) D = some (.lst ur.reverse) := upd_same
      generalize upd H' D (.lst ur.reverse) = H3 at L3 sb3 g3 ⊢
      have h13 := h1.lst L3
      have hr3 := IsAll.lst L3 hr1
      have s03 : Same H H3 := U.Same.but s1 sb3 nD
      have hlr := len_sizes xr
      rw [hr3.len] at hlr
      walk_at "w"
      cases ht with
      | cons hx1 ht2 =>
        cases hx1 with
        | leaf hm2 =>
          cases h13 with
          | @tup p _ vs tp ha =>
            cases ha with
            | cons h0 ha =>
              cases h0
              rcases hm2 with rfl | rfl
              · refine Or.inr (Or.inl ⟨_, _, _, _, rfl, rfl, tp.1, U.atN 0 rfl rfl, ?_⟩)
                walk_at "w"
                refine Or.inr (Or.inl ⟨_, _, _, _, rfl, rfl, tp.1, U.atN 0 rfl rfl, ?_⟩)
                walk_at "w"
                refine Or.inr (Or.inl ⟨_, _, _, _, rfl, rfl, tp.1, U.atN 0 rfl rfl, ?_⟩)
                walk_at "w"
                intro qa na; generalize hX : upd _ qa _ = H4; obtain ⟨s4, g4⟩ := U.newF na hX; clear hX
                refine Or.inr ⟨qa, _, rfl, Or.inr (SqT.of g4), rfl, rfl, ?_⟩
                walk_at "w"
                exact ⟨xr, ur, _, _, _, by omega, by omega, rfl, s4 _ _ g3, hr3.keep s4, sb3.trans (.of s4), by rw [Bool.true_and]; exact ht2⟩
              · refine Or.inr (Or.inl ⟨_, _, _, _, rfl, rfl, tp.1, U.atN 0 rfl rfl, ?_⟩)
                walk_at "w"
                refine Or.inr (Or.inl ⟨_, _, _, _, rfl, rfl, tp.1, U.atN 0 rfl rfl, ?_⟩)
                walk_at "w"
                refine Or.inr (Or.inl ⟨_, _, _, _, rfl, rfl, tp.1, U.atN 0 rfl rfl, ?_⟩)
                walk_at "w"
                intro qa na; generalize hX : upd _ qa _ = H4; obtain ⟨s4, g4⟩ := U.newF na hX; clear hX
                refine Or.inr ⟨qa, _, rfl, Or.inr (SqT.of g4), rfl, rfl, ?_⟩
                walk_at "w"
                exact ⟨xr, ur, _, _, _, by omega, by omega, rfl, s4 _ _ g3, hr3.keep s4, sb3.trans (.of s4), by rw [Bool.true_and]; exact ht2⟩
        | @other hd0 xs0 n l =>
          cases h13 with
          | @tup p _ vs tp ha =>
            cases ha with
            | cons h0 ha =>
              cases h0
              refine Or.inr (Or.inl ⟨_, _, _, _, rfl, rfl, tp.1, U.atN 0 rfl rfl, ?_⟩)
              walk_at "w"
              refine U.ifDs (fun e => absurd e n.1) (fun _ => ?_)
              walk_at "w"
              refine Or.inr (Or.inl ⟨_, _, _, _, rfl, rfl, tp.1, U.atN 0 rfl rfl, ?_⟩)
              walk_at "w"
              refine U.ifDs (fun e => absurd e n.2.1) (fun _ => ?_)
              walk_at "w"
              refine Or.inr (Or.inl ⟨_, _, _, _, rfl, rfl, tp.1, U.atN 0 rfl rfl, ?_⟩)
              walk_at "w"
              intro qa na; generalize hX : upd _ qa _ = H4; obtain ⟨s4, g4⟩ := U.newF na hX; clear hX
              refine Or.inr ⟨qa, _, rfl, Or.inr (SqT.of g4), rfl, rfl, ?_⟩
              have hin : inV (V.str hd0) [V.str (Str.ofString "number"), V.str (Str.ofString "fn")] = false := by
                show ((Str.ofString "number" == hd0) || ((Str.ofString "fn" == hd0) || false)) = false
                rw [beq_eq_false_iff_ne.mpr (Ne.symm n.2.2.1), beq_eq_false_iff_ne.mpr (Ne.symm n.2.2.2)]
                rfl
              rw [hin]
              walk_at "w"
              exact k H4 (s03.trans s4)
        | @tag t2 c2 b2 hc =>
          cases h13 with
          | @tup p _ vs tp ha =>
            cases ha with
            | cons h0 ha =>
              cases h0
              cases ha with
              | @cons _ vt _ _ ht1 ha =>
                cases ha with
                | @cons _ vc _ _ hc1 ha =>
                  cases ha
                  refine Or.inr (Or.inl ⟨_, _, _, _, rfl, rfl, tp.1, U.atN 0 rfl rfl, ?_⟩)
                  walk_at "w"
                  refine Or.inr (Or.inl ⟨_, _, _, _, rfl, rfl, tp.1, U.atN 0 rfl rfl, ?_⟩)
                  walk_at "w"
                  refine Or.inr (Or.inl ⟨_, _, _, _, rfl, rfl, tp.1, U.atN 2 rfl rfl, ?_⟩)
                  walk_at "w"
                  refine ⟨D, _, _, rfl, rfl, g3, by rw [List.length_reverse, PySem.sizeLine_eq]; omega, ?_⟩
                  rw [← List.reverse_cons]
                  have Ld : Lst H3 (upd H3 D (.lst (vc :: ur).reverse)) := .but (U.SameBut.refl _ _).upd ⟨_, g3⟩ ⟨_, upd_same⟩
                  refine ⟨c2 :: xr, vc :: ur, _, _, _, ?_, by omega, rfl, upd_same, .cons (hc1.lst Ld) (IsAll.lst Ld hr3), sb3.upd, .cons hc ht2⟩
                  show c2.size + PV.sizes xr ≤ m - 1
                  have hw2 : (1 + (t2.size + (c2.size + 0)) + 1) + PV.sizes xr ≤ m := hw
                  omega
        | @record es ys b2 he hl hys =>
          cases h13 with
          | @tup p _ vs tp ha =>
            cases ha with
            | cons h0 ha =>
              cases h0
              cases ha with
              | @cons _ v1 _ _ h1x ha =>
                cases ha
                cases h1x with
                | @tup p1 _ vs1 tp1 ha1 =>
                  refine Or.inr (Or.inl ⟨_, _, _, _, rfl, rfl, tp.1, U.atN 0 rfl rfl, ?_⟩)
                  walk_at "w"
                  refine Or.inr (Or.inl ⟨_, _, _, _, rfl, rfl, tp.1, U.atN 1 rfl rfl, ?_⟩)
                  walk_at "w"
                  refine ⟨⟨_, tp1.1⟩, fun F nF => ?_⟩
                  have FD : F ≠ D := fun z => by rw [z, g3] at nF; cases nF
                  refine lc_tup (xs := vs1) (fun i Hj => ∃ uz, Hj F = some (.lst uz) ∧ uz.length = i ∧ IsAll K Hj (ys.take i) uz ∧ Same H3 Hj) ⟨[], upd_same, rfl, .nil, same_new nF⟩ (fun i Hj _ st => ?_) ?_ ?_
                  · obtain ⟨_, _, _, _, sj⟩ := st
                    exact (tp1.keep sj).1
                  · rintro i x Hj hx ⟨uz, gF, hul, hu, sj⟩
                    obtain ⟨e, hei, ise⟩ := ha1.nth hx
                    obtain ⟨lb, y, rfl, hyi⟩ := he.nth hei
                    have ise := ise.keep sj
                    have hi10 : i < 10 := by
                      have := (List.getElem?_eq_some_iff.mp hei).1
                      omega
                    cases ise with
                    | @tup pe _ ve te hae =>
                      cases hae with
                      | cons e0 hae =>
                        cases e0
                        cases hae with
                        | @cons _ vy _ _ e1 hae =>
                          cases hae
                          refine ⟨pe, _, rfl, te.1, rfl, ?_⟩
                          walk_at "w"
                          refine ⟨rfl, ?_⟩
                          walk_at "w"
                          have L6 : Lst Hj (upd Hj F (.lst (uz ++ [vy]))) := .but (U.SameBut.refl _ _).upd ⟨_, gF⟩ ⟨_, upd_same⟩
                          refine ⟨uz, gF, U.szl (by omega), uz ++ [vy], upd_same, by rw [List.length_append, hul] <;> rfl, ?_, fun c o q => by rw [upd_ne (fun z => by rw [z, nF] at q; cases q)]; exact sj c o q⟩
                          rw [List.take_add_one, hyi]
                          exact (IsAll.lst L6 hu).app (.cons (e1.lst L6) .nil)
                  · rintro Hj ⟨uz, gF, hul, hu, sj⟩
                    have gDj := sj _ _ g3
                    walk_at "w"
                    have hyl : ys.length = vs1.length := by rw [← he.len, ha1.len]
                    rw [← hyl, List.take_length] at hu
                    have hes := he.size
                    have hw2 : (1 + ((PV.sizes es + 1) + 0) + 1) + PV.sizes xr ≤ m := hw
                    have hlz := len_sizes ys
                    rw [hu.len] at hlz
                    refine ⟨D, F, _, _, rfl, rfl, gDj, .inl gF, by rw [List.length_reverse, PySem.sizeLine_eq]; omega, ?_⟩
                    have L5 : Lst Hj (upd Hj D (.lst (ur.reverse ++ uz))) := .but (U.SameBut.refl _ _).upd ⟨_, gDj⟩ ⟨_, upd_same⟩
                    refine ⟨ys.reverse ++ xr, uz.reverse ++ ur, _, _, _, ?_, by omega, rfl, ?_, ?_, ((sb3.trans (.of sj)).upd), hys.rev.app ht2⟩
                    · rw [sizes_app, sizes_rev]
                      omega
                    · rw [List.reverse_append, List.reverse_reverse]
                      exact upd_same
                    · exact IsAll.lst L5 (hu.rev.app (hr3.keep sj))
end
section
open PySem.Spec PyProof.Rows
variable {prog : Program} {w : World} {A : Around} {E : Value → Shared → Prop} {s : Shared}
theorem places_rev (n : Nat) : Builtin.Slice.slicePlaces ((n : Int) - 1) (-1) (-1) = n := by
  unfold Builtin.Slice.slicePlaces
  have h1 : ¬ ((-1 : Int) > 0) := by decide
  simp only [h1, if_false]
  by_cases h : (n : Int) - 1 > -1
  · rw [if_pos h, show (- -1 : Int) = 1 by decide, Int.ediv_one]
    omega
  · rw [if_neg h]
    omega
theorem sliceApplied_rev {sl : Addr} {vs : Value} {n : Nat} {Q : Int × Int × Nat → Shared → Prop} (hs : s.heap.IsSliceOf sl .none .none vs) (ps : IsPart vs (some (-1)))
    (h : Q ((n : Int) - 1, -1, n) s) : wpAny (model prog w) A (Builtin.Slice.sliceApplied (.ref sl) (pure (n : Int))) Q E s := by
  obtain ⟨os, hos, hcs, hds⟩ := id hs
  unfold Builtin.Slice.sliceApplied Builtin.Slice.sliceFields
  refine wpAny_bind (wpAny_bind (wpAny_field hos hds (x := .none) rfl (wpAny_bind (wpAny_field hos hds (x := .none) rfl (wpAny_bind (wpAny_field hos hds (x := vs) rfl (wpAny_pure ?_)))))))
  refine wpAny_bind (HT.slicePart_ ps ?_)
  show wpAny _ _ (if ((-1 : Int) == 0) = true then _ else _) _ _ s
  rw [if_neg (by decide)]
  refine wpAny_bind (HT.slicePart_ .none (wpAny_bind (HT.slicePart_ .none (wpAny_bind (wpAny_pure ?_)))))
  show wpAny _ _ (pure (((n : Int) - 1, (-1 : Int), Builtin.Slice.slicePlaces ((n : Int) - 1) (-1) (-1)) : Int × Int × Nat)) _ _ s
  rw [places_rev]
  exact wpAny_pure h
theorem pick_rev (xs : Array Value) : ((List.range xs.size).filterMap fun (m : Nat) => xs[(((xs.size : Int) - 1) + (m : Int) * (-1)).toNat]?).toArray = xs.toList.reverse.toArray := by
  have e : (fun (m : Nat) => xs[(((xs.size : Int) - 1) + (m : Int) * (-1)).toNat]?) = (fun k : Nat => xs[k]?) ∘ fun m : Nat => xs.size - 1 - m := by
    funext m
    have : (((xs.size : Int) - 1) + (m : Int) * (-1)).toNat = xs.size - 1 - m := by omega
    simp only [Function.comp, this]
  rw [e, ← List.filterMap_map, PySem.W.krv_range, List.filterMap_reverse, PySem.W.krv_all]
theorem getItem_tuple_rev {t sl : Addr} {items : Array Value} {vs : Value} {Q : Value → Shared → Prop} (ht : IsTup s.heap t items) (hs : s.heap.IsSliceOf sl .none .none vs) (ps : IsPart vs (some (-1)))
    (h : Q (.ref s.heap.objs.size) { s with heap := s.heap.push { cls := .type "tuple", data := .seq items.toList.reverse.toArray } })
    (hsz : items.size ≤ sizeLine) : wpAny (model prog w) A (getItem (.ref t) (.ref sl)) Q E s := by
  have htake : sizeOk (.seq items.toList.reverse.toArray) := by
    show items.toList.reverse.toArray.size ≤ sizeLine
    rw [List.size_toArray, List.length_reverse, Array.length_toList]
    exact hsz
  obtain ⟨os, hos, hcs, hds⟩ := id hs
  have hTs : s.TypeIs (.ref sl) "slice" := ⟨os, hos, hcs⟩
  unfold getItem
  try with_reducible refine wpAny_holding ?_
  first | refine wpAny_bind (wpAny_pure ?_) | skip
  refine wpAny_bind (wpAny_sequenceKey ht.typeIs (by decide) ?_)
  refine wpAny_bind (wpAny_callSpecial?_slot (name := Str.ofString "__getitem__") ht.typeIs PyProof.Rows.slot_tuple_getitem
    (wpAny_call_entry PyProof.Rows.slot_tuple_getitem ht.typeIs entry_tuple_getitem ?_ (args_tuple_getitem _ _)))
  show wpAny _ _ (Builtin.Tuple.tupleItemsOf (.ref t) >>= _) _ _ s
  refine wpAny_bind (tupleItemsOf_ ht ?_)
  refine wpAny_bind (wpAny_typeOf hTs ?_)
  rw [if_pos (by decide)]
  refine wpAny_bind (sliceApplied_rev hs ps ?_)
  have hno : ¬ ((((items.size : Int) - 1) == 0 && (-1 : Int) == 1 && items.size == items.size) = true) := by
    intro q
    rw [Bool.and_eq_true, Bool.and_eq_true] at q
    exact absurd q.1.2 (by decide)
  show wpAny _ _ (if (((items.size : Int) - 1) == 0 && (-1 : Int) == 1 && items.size == items.size) = true then _ else _) _ _ s
  rw [if_neg hno, pick_rev]
  first
    | exact wpAny_bind (m := Builtin.Tuple.tupleExact _) (wpAny_newObj_type (wpAny_pure ⟨_, rfl, wpAny_pure h⟩) htake)
    | exact wpAny_bind (m := Builtin.Tuple.tupleExact _) (wpAny_newObj_type (wpAny_bind (wpAny_pure (wpAny_pure ⟨_, rfl, wpAny_pure h⟩))) htake)
    | exact wpAny_bind (wpAny_bind (m := Builtin.Tuple.tupleExact _) (wpAny_newObj_type (wpAny_pure (wpAny_pure ⟨_, rfl, wpAny_pure h⟩)) htake))
    | exact wpAny_bind (wpAny_bind (m := Builtin.Tuple.tupleExact _) (wpAny_newObj_type (wpAny_pure ⟨_, rfl, wpAny_pure h⟩) htake))
end
section
open PySem.Spec PyProof.Rows
/-- t[::-1], t a tuple -/
def tRevT (K : PySem.W.Frag) (te : TE) : TE := fun σ H Q => te σ H fun x H1 => ∃ a xs, x = .ref a ∧ SqT K H1 a xs ∧ ∀ p, H1 p = none → Q (.ref p) (upd H1 p (.tup xs.reverse))
theorem pe_revT {X : Cx} {e : Expr} {te : TE} {k : Nat} {p1 p2 p3 pos : Pos} (he : PE X e te) : PE X (.Subscript e (.Slice none none (some (.UnaryOp .USub (.Constant (.int 1) k p1) p2)) p3) pos) (tRevT X.K te) := by
  refine ⟨fun pins s σ H Q I h => ?_⟩
  refine Subscript_ (thn (he.run pins s σ H _ I h) fun v s1 ⟨x, H1, I1, r1, q1⟩ => ?_)
  obtain ⟨a, xs, ex, hx, q⟩ := q1
  subst ex
  cases r1
  have hst : PO X (some (.UnaryOp .USub (.Constant (.int 1) k p1) p2)) (tPart (tUn (rU fun i => .int (-i)) (tC (.int 1)))) := po_some (pe_un un_neg pe_int)
  refine wpAny_Slice (thn (po_none.run pins s1 σ H1 (fun o H2 => o = none ∧ H2 = H1) I1 ⟨rfl, rfl⟩) fun vl s2 ⟨l, H2, I2, pl, el, e2⟩ => ?_)
  subst el e2
  refine thn (po_none.run pins s2 σ H2 (fun o H3 => o = none ∧ H3 = H2) I2 ⟨rfl, rfl⟩) fun vu s3 ⟨u, H3, I3, pu, eu, e3⟩ => ?_
  subst eu e3
  refine thn (hst.run pins s3 σ H3 (fun o H4 => o = some (-1) ∧ H4 = H3) I3 ⟨1, rfl, -1, rfl, rfl, rfl⟩) fun vs s4 ⟨o, H4, I4, ps, eo, e4⟩ => ?_
  subst eo e4
  cases pl
  cases pu
  have I5 : Inv X pins σ H4 { s4 with heap := s4.heap.push { cls := .type "slice", data := .fields #[.none, .none, vs] } } := I4.kept (t' := s4.toks) fun b ob q => Heap.get?_push_of_some _ q
  obtain ⟨its, r, ht, hz⟩ := I5.tuple hx
  have hlen := r.length
  show wpAny (model X.prog X.w) X.A (subscriptTail e (.Slice none none (some (.UnaryOp .USub (.Constant (.int 1) k p1) p2)) p3) (.ref a) (.ref s4.heap.objs.size)) (EP X pins σ Q) X.xe { s4 with heap := s4.heap.push { cls := .type "slice", data := .fields #[.none, .none, vs] } }
  refine tail_any (ops := [.ref a, .ref s4.heap.objs.size]) ht.typeIs (PyProof.Rows.slot_tuple_getitem.lookup) ?_ (by with_unfolding_all rfl)
  refine getItem_tuple_rev ht (Heap.IsSliceOf.new _ .none .none vs) ps ?_ (by rw [List.size_toArray, ← hlen]; exact hz)
  refine ⟨.ref _, _, I5.laid (t' := s4.toks) (o := .tup xs.reverse) (fun b ob q => Heap.get?_push_of_some _ q) (Nat.le_refl _) ?_, rfl, q _ (I5.hok.fresh (Nat.le_refl _))⟩
  exact ⟨by rw [List.length_reverse]; exact hz, _, r.reverse, IsTup.new _ _⟩
end
/-- what stands at a part, the word that it binds, and the parts within it -/
inductive Nd : PV → Option Str → List PV → Prop
  | number (n u : PV) : Nd (.tup [.str "number", n, u]) none []
  | name (z : Str) : Nd (.tup [.str "name", .str z]) none []
  | fail (z : PV) : Nd (.tup [.str "fail", z]) none []
  | fn (z : Str) (b : PV) : Nd (.tup [.str "fn", .str z, b]) (some z) [b]
  | call (a b : PV) : Nd (.tup [.str "call", a, b]) none [a, b]
  | tag (t c : PV) : Nd (.tup [.str "tag", t, c]) none [c]
  | record {es ys : List PV} (h : EntV es ys) (l : es.length ≤ 10) : Nd (.tup [.str "record", .tup es]) none ys
theorem Nd.pi {x : PV} {o : Option Str} {ys : List PV} (h : Nd x o ys) : PiD x ys := by
  cases h with
  | number n u => exact .number n u
  | name z => exact .name _
  | fail z => exact .fail z
  | fn z b => exact .fn _ b
  | call a b => exact .call a b
  | tag t c => exact .tag t c
  | record h l => exact .record h l
theorem EntV.len10 {es ys : List PV} (h : EntV es ys) (l : es.length ≤ 10) : ys.length ≤ 10 := by
  rw [← h.len]
  exact l
theorem Nd.few {x : PV} {o : Option Str} {ys : List PV} (h : Nd x o ys) : ys.length ≤ 10 := by
  cases h with
  | record h l => exact h.len10 l
  | number n u => exact Nat.zero_le _
  | name z => exact Nat.zero_le _
  | fail z => exact Nat.zero_le _
  | fn z b => show 1 ≤ 10; decide
  | call a b => show 2 ≤ 10; decide
  | tag t c => show 1 ≤ 10; decide
/-- a row of trees, part by part: the part, the words bound around it, the word that it binds, the trees within it, the trees behind it -/
inductive Fo where
  | nil
  | node (x : PV) (s : List Str) (w : Option Str) (k r : Fo)
namespace Fo
def app : Fo → Fo → Fo
  | .nil, g => g
  | .node x s w k r, g => .node x s w k (r.app g)
def pre : Fo → List (PV × List Str)
  | .nil => []
  | .node x s w k r => (x, s) :: (k.pre ++ r.pre)
def roots : Fo → List (PV × List Str)
  | .nil => []
  | .node x s _ _ r => (x, s) :: r.roots
def size : Fo → Nat
  | .nil => 0
  | .node _ _ _ k r => k.size + r.size + 1
def nums : Nat → Fo → List Nat
  | _, .nil => []
  | n, .node _ _ _ k r => n :: r.nums (n + 1 + k.size)
def adv : Fo → Fo
  | .nil => .nil
  | .node _ _ _ k r => k.app r
end Fo
def ext (s : List Str) : Option Str → List Str
  | none => s
  | some z => z :: s
def FoOk : Fo → Prop
  | .nil => True
  | .node x s w k r => Nd x w (k.roots.map Prod.fst) ∧ (∀ t ∈ k.roots, t.2 = ext s w) ∧ FoOk k ∧ FoOk r
namespace Fo
theorem app_pre : ∀ f g : Fo, (f.app g).pre = f.pre ++ g.pre
  | .nil, g => rfl
  | .node x s w k r, g => by
    show (x, s) :: (k.pre ++ (r.app g).pre) = ((x, s) :: (k.pre ++ r.pre)) ++ g.pre
    rw [app_pre r g, List.cons_append, List.append_assoc]
theorem app_roots : ∀ f g : Fo, (f.app g).roots = f.roots ++ g.roots
  | .nil, g => rfl
  | .node x s w k r, g => by
    show (x, s) :: (r.app g).roots = ((x, s) :: r.roots) ++ g.roots
    rw [app_roots r g, List.cons_append]
theorem app_size : ∀ f g : Fo, (f.app g).size = f.size + g.size
  | .nil, g => (Nat.zero_add _).symm
  | .node x s w k r, g => by
    show k.size + (r.app g).size + 1 = k.size + r.size + 1 + g.size
    rw [app_size r g]
    omega
theorem pre_len : ∀ f : Fo, f.pre.length = f.size
  | .nil => rfl
  | .node x s w k r => by
    show (k.pre ++ r.pre).length + 1 = k.size + r.size + 1
    rw [List.length_append, pre_len k, pre_len r]
theorem roots_le : ∀ f : Fo, f.roots.length ≤ f.size
  | .nil => Nat.le_refl _
  | .node x s w k r => by
    have := roots_le r
    show r.roots.length + 1 ≤ k.size + r.size + 1
    omega
theorem nums_len : ∀ (f : Fo) (n : Nat), (f.nums n).length = f.roots.length
  | .nil, n => rfl
  | .node x s w k r, n => congrArg (· + 1) (nums_len r _)
theorem nums_app : ∀ (f g : Fo) (n : Nat), (f.app g).nums n = f.nums n ++ g.nums (n + f.size)
  | .nil, g, n => rfl
  | .node x s w k r, g, n => by
    show n :: (r.app g).nums (n + 1 + k.size) = (n :: r.nums (n + 1 + k.size)) ++ g.nums (n + (k.size + r.size + 1))
    rw [nums_app r g, List.cons_append, show n + 1 + k.size + r.size = n + (k.size + r.size + 1) by omega]
theorem nums_ge : ∀ (f : Fo) (n m : Nat), m ∈ f.nums n → n ≤ m ∧ m < n + f.size
  | .node x s w k r, n, m, h => by
    rcases List.mem_cons.mp h with rfl | h
    · show m ≤ m ∧ m < m + (k.size + r.size + 1)
      omega
    · have := nums_ge r _ _ h
      show n ≤ m ∧ m < n + (k.size + r.size + 1)
      omega
end Fo
theorem FoOk.app : ∀ {f g : Fo}, FoOk f → FoOk g → FoOk (f.app g)
  | .nil, _, _, h => h
  | .node x s w k r, _, h, h2 => ⟨h.1, h.2.1, h.2.2.1, h.2.2.2.app h2⟩
theorem FoOk.adv : ∀ {f : Fo}, FoOk f → FoOk f.adv
  | .nil, _ => trivial
  | .node x s w k r, h => h.2.2.1.app h.2.2.2
/-- the parts from the i-th one on -/
def Fo.at (f : Fo) : Nat → Fo
  | 0 => f
  | i + 1 => (f.at i).adv
theorem FoOk.at {f : Fo} (h : FoOk f) : ∀ i, FoOk (f.at i)
  | 0 => h
  | i + 1 => (h.at i).adv
theorem Fo.adv_pre : ∀ f : Fo, f.adv.pre = f.pre.drop 1
  | .nil => rfl
  | .node x s w k r => app_pre k r
theorem Fo.at_pre (f : Fo) : ∀ i, (f.at i).pre = f.pre.drop i
  | 0 => rfl
  | i + 1 => by
    show (f.at i).adv.pre = _
    rw [Fo.adv_pre, Fo.at_pre f i, List.drop_drop]
theorem Fo.at_size (f : Fo) (i : Nat) : (f.at i).size = f.size - i := by
  rw [← Fo.pre_len, Fo.at_pre, List.length_drop, Fo.pre_len]
/-- the part at i -/
theorem Fo.at_node (f : Fo) {i : Nat} (h : i < f.size) : ∃ x s w k r, f.at i = .node x s w k r ∧ f.pre[i]? = some (x, s) ∧ f.at (i + 1) = k.app r := by
  have e := f.at_size i
  cases q : f.at i with
  | nil =>
    rw [q] at e
    have : 0 = f.size - i := e
    omega
  | node x s w k r =>
    refine ⟨x, s, w, k, r, rfl, ?_, ?_⟩
    · have := f.at_pre i
      rw [q] at this
      have h2 : f.pre.drop i = (x, s) :: (k.pre ++ r.pre) := this.symm
      rw [← Nat.add_zero i, ← List.getElem?_drop, h2] <;> rfl
    · show (f.at i).adv = _
      rw [q] <;> rfl
theorem Fo.at_end (f : Fo) : f.at f.size = .nil := by
  have e := f.at_size f.size
  cases q : f.at f.size with
  | nil => rfl
  | node x s w k r =>
    rw [q] at e
    have : k.size + r.size + 1 = f.size - f.size := e
    omega
/-- roots stand at their numbers -/
theorem Fo.root_at (L : List (PV × List Str)) : ∀ (f : Fo) (i : Nat) (rest : List (PV × List Str)), L.drop i = f.pre ++ rest → ∀ (j m : Nat) (t : PV × List Str), (f.nums i)[j]? = some m → f.roots[j]? = some t → L[m]? = some t
  | .nil, i, rest, h, j, m, t, h1, h2 => by cases h1
  | .node x s w k r, i, rest, h, 0, m, t, h1, h2 => by
    cases h1
    cases h2
    rw [← Nat.add_zero i, ← List.getElem?_drop, h] <;> rfl
  | .node x s w k r, i, rest, h, j + 1, m, t, h1, h2 => by
    refine root_at L r (i + 1 + k.size) rest ?_ j m t h1 h2
    have h : L.drop i = (x, s) :: (k.pre ++ r.pre) ++ rest := h
    rw [Nat.add_assoc, ← List.drop_drop, h, Nat.add_comm 1, List.cons_append, List.drop_succ_cons, List.append_assoc, ← Fo.pre_len k, List.drop_left]
section
variable {P : Program} {w : World} {K : PySem.W.Frag} {mg : Str → Option Value} {base : Heap} {A : Ad}
theorem Fo.node_size {x : PV} {s : List Str} {o : Option Str} {k r : Fo} : (Fo.node x s o k r).size = k.size + r.size + 1 := rfl
/-- whether a part is a leaf -/
def PV.leaf : PV → Bool
  | .tup (.str h :: _) => h == "number" || (h == "name" || (h == "fail" || (h == "any" || h == "bind")))
  | _ => false
def spParts (K : PySem.W.Frag) : Sp := fun vs H Q _ => ∃ (x : PV) (v : V) (s : List Str) (o : Option Str) (k : Fo), vs = [v] ∧ Is K H x v ∧ FoOk (.node x s o k .nil) ∧ (Fo.node x s o k .nil).size ≤ 1000 ∧
  ∀ H' q us, Same H H' → H' q = some (.lst us) → IsAll K H' ((Fo.node x s o k .nil).pre.map Prod.fst) us → Q (.ref q) H'
/-- the head of a part, and whether it is a leaf -/
theorem Nd.head {x : PV} {o : Option Str} {ys : List PV} (h : Nd x o ys) : ∃ (hd : Str) (xs : List PV), x = .tup (.str hd :: xs) ∧ (tabGet (kv_LEAVES A) hd).isSome = x.leaf ∧ (x.leaf = true → ys = []) := by
  cases h with
  | number n u => exact ⟨_, _, rfl, rfl, fun _ => rfl⟩
  | name z => exact ⟨_, _, rfl, rfl, fun _ => rfl⟩
  | fail z => exact ⟨_, _, rfl, rfl, fun _ => rfl⟩
  | fn z b => exact ⟨_, _, rfl, rfl, fun e => absurd e (by show ¬ (false = true); decide)⟩
  | call a b => exact ⟨_, _, rfl, rfl, fun e => absurd e (by show ¬ (false = true); decide)⟩
  | tag t c => exact ⟨_, _, rfl, rfl, fun e => absurd e (by show ¬ (false = true); decide)⟩
  | record h l => exact ⟨_, _, rfl, rfl, fun e => absurd e (by show ¬ (false = true); decide)⟩
theorem ok_parts_of (T : Top w K mg A) : FnOk P w K mg base CX0 2 A.a_parts_of A.fd_parts_of ["part"] (spParts K) := by
  refine T.F_parts_of.ok sc_parts_of (fun vs H Q E h => ?_) (fun cdv A' outer s H vs Q E hr h => ?_)
  · obtain ⟨x, v, _, _, _, rfl, _⟩ := h
    rfl
  · obtain ⟨x, v, sc, ob, kd, rfl, hx, hf, hsz, k⟩ := h
    refine ⟨_, (pss_cons (ps_set (i := 1) sc_parts_of.nd rfl (Or.inl rfl) (pe_lst pa_nil))
    (pss_cons (ps_set (i := 2) sc_parts_of.nd rfl (Or.inl rfl) (pe_lst (pa_cons (pv 0) pa_nil)))
    (pss_cons (ps_while PassesOwn.never (pt_lst (K := K) rfl (pv 2) (fun _ => rfl)) (pss_cons (ps_set (i := 3) sc_parts_of.nd rfl (Or.inl rfl) (pe_bm0 PySem.F.plainAttrs_list PySem.F.slot_list_pop PySem.F.type_list_pop mt_pop (pv 2)))
    (pss_cons (ps_expr (pe_bm PySem.F.plainAttrs_list PySem.F.slot_list_append PySem.F.type_list_append mt_append (pv 1) (pa_cons (pv 3) pa_nil)))
    (pss_one (ps_if (pt_cmpR (op_notInT (K := K) (w := w) rfl rfl) (pe_ix (U.uIx (K := K) rfl) (pv 3) pe_int (fun _ _ => rfl)) (U.pe_con_ T.m_LEAVES) rfl) (pss_one (ps_expr (pe_bm PySem.F.plainAttrs_list PySem.F.slot_list_extend PySem.F.type_list_extend (mt_extU (K := K) rfl) (pv 2) (pa_cons (pe_revT (pe_call (ok_parts_in T) (hr.mono (by decide)) rfl T.m_parts_in T.F_parts_in.kp T.b_parts_in .nil pass0 (pa_cons (pv 3) pa_nil))) pa_nil)))) pss_nil)))))
    (pss_one (ps_ret (pv 1)))))), ?_⟩
    walk_at "w"
    intro D nD; generalize hX : upd _ D _ = H1; obtain ⟨s1, g1⟩ := U.newF nD hX; clear hX
    walk_at "w"
    intro W nW; generalize hX : upd _ W _ = H2; obtain ⟨s2, g2⟩ := U.newF nW hX; clear hX
    walk_at "w"
    have WD : W ≠ D := fun z => by rw [z, g1] at nW; cases nW
    have nW0 : H W = none := s1.free nW
    have s02 := s1.trans s2
    refine ⟨fun m σ H' => ∃ (g : Fo) (xs : List PV) (us ws : List V) (o3 : Option V), g.size ≤ m ∧ m ≤ 1000 ∧ xs.length + g.size ≤ 1000 ∧ σ = [some v, some (.ref D), some (.ref W), o3] ∧ H' D = some (.lst us) ∧ H' W = some (.lst ws.reverse) ∧ IsAll K H' xs us ∧ IsAll K H' (g.roots.map Prod.fst) ws ∧ FoOk g ∧ Same H H' ∧ xs ++ g.pre.map Prod.fst = (Fo.node x sc ob kd .nil).pre.map Prod.fst,
      ⟨(Fo.node x sc ob kd .nil).size, .node x sc ob kd .nil, [], [], [v], _, Nat.le_refl _, hsz, by rw [List.length_nil]; omega, rfl, s2 _ _ g1, g2, .nil, .cons (hx.keep s02) .nil, hf, s02, rfl⟩, ?_⟩
    rintro m σ H' ⟨g, xs, us, ws, o3, hm, hm2, hl, rfl, gD, gW, ha, hw, hg, s0, he⟩
    walk_at "w"
    refine ⟨W, _, rfl, SqL.of gW, ?_⟩
    cases g with
    | nil =>
      cases hw
      walk_at "w"
      refine k H' D us s0 gD ?_
      rw [← he]
      show IsAll K H' (xs ++ []) us
      rw [List.append_nil]
      exact ha
    | node x1 sc1 ob1 k1 r1 =>
      cases hw with
      | @cons _ v1 _ ur h1 hr1 =>
        rw [show (!(v1 :: ur).reverse.isEmpty) = true from by rw [List.reverse_cons]; cases ur.reverse <;> rfl]
        rw [Fo.node_size] at hm hl
        refine ⟨fun σ' H2 => _, fun σ' H2 q => ⟨m - 1, by omega, q⟩, ?_⟩
        walk_at "w"
        refine rPop_rev gW ?_
        have L3 : Lst H' (upd H' W (.lst ur.reverse)) := .but (U.SameBut.refl _ _).upd ⟨_, gW⟩ ⟨_, upd_same⟩
        have s3 : Same H (upd H' W (.lst ur.reverse)) := fun c o q => by rw [upd_ne (fun z => by rw [z, nW0] at q; cases q)]; exact s0 c o q
        have g3 : (upd H' W (.lst ur.reverse)) W = some (.lst ur.reverse) := upd_same
        have g3D : (upd H' W (.lst ur.reverse)) D = some (.lst us) := by rw [upd_ne (Ne.symm WD)]; exact gD
        generalize upd H' W (.lst ur.reverse) = H3 at L3 s3 g3 g3D ⊢
        have h13 := h1.lst L3
        have hr3 := IsAll.lst L3 hr1
        have ha3 := IsAll.lst L3 ha
        walk_at "w"
        have hul := ha.len
        refine ⟨D, us, _, rfl, rfl, g3D, U.szl (by omega), ?_⟩
        have L4 : Lst H3 (upd H3 D (.lst (us ++ [v1]))) := .but (U.SameBut.refl _ _).upd ⟨_, g3D⟩ ⟨_, upd_same⟩
        have s4 : Same H (upd H3 D (.lst (us ++ [v1]))) := fun c o q => by rw [upd_ne (fun z => by rw [z, nD] at q; cases q)]; exact s3 c o q
        have g4D : (upd H3 D (.lst (us ++ [v1]))) D = some (.lst (us ++ [v1])) := upd_same
        have g4 : (upd H3 D (.lst (us ++ [v1]))) W = some (.lst ur.reverse) := by rw [upd_ne WD]; exact g3
        generalize upd H3 D (.lst (us ++ [v1])) = H4 at L4 s4 g4 g4D ⊢
        have h14 := h13.lst L4
        have hr4 := IsAll.lst L4 hr3
        have ha4 := (IsAll.lst L4 ha3).app (.cons h14 .nil)
        have hnd := hg.1
        obtain ⟨hd, xr, ex, hlf, hlf2⟩ := hnd.head (A := A)
        have hpi := hnd.pi
        have hfew := hnd.few
        subst ex
        have h14' := h14
        cases h14' with
        | @tup p _ vs tp hax =>
          cases hax with
          | cons h0 hax =>
            cases h0
            walk_at "w"
            refine Or.inr (Or.inl ⟨_, _, _, _, rfl, rfl, tp.1, U.atN 0 rfl rfl, ?_⟩)
            walk_at "w"
            refine ⟨_, _, _, rfl, rfl, T.q_LEAVES, ?_⟩
            rw [hlf]
            have hpre : (xs ++ [PV.tup (PV.str hd :: xr)]) ++ (k1.app r1).pre.map Prod.fst = (Fo.node x sc ob kd .nil).pre.map Prod.fst := by
              rw [← he, Fo.app_pre, List.append_assoc]
              rfl
            have hrl := r1.roots_le
            have hrn := hr1.len
            rw [List.length_map] at hrn
            cases hb : (PV.tup (PV.str hd :: xr)).leaf with
            | true =>
              walk_at "w"
              have hk : k1 = .nil := by
                have := hlf2 hb
                cases k1 with
                | nil => rfl
                | node _ _ _ _ _ => cases this
              subst hk
              exact ⟨r1, _, _, ur, _, by omega, by omega, by rw [List.length_append, List.length_singleton]; omega, rfl, g4D, g4, ha4, hr4, hg.2.2.2, s4, hpre⟩
            | false =>
              walk_at "w"
              refine ⟨_, _, _, rfl, h14, hpi, fun H5 q uz s5 hq hu => ?_⟩
              walk_at "w"
              refine ⟨q, uz, rfl, hq, fun p6 n6 => ?_⟩
              generalize hX : upd H5 p6 _ = H6
              obtain ⟨s6, g6⟩ := U.newF n6 hX
              clear hX
              walk_at "w"
              have s56 := s5.trans s6
              have hul2 := hu.len
              rw [List.length_map] at hul2
              have hkl := k1.roots_le
              rw [List.length_map] at hfew
              refine ⟨W, p6, _, _, rfl, rfl, s56 _ _ g4, .inr (SqT.of g6), by rw [List.length_reverse, List.length_reverse, PySem.sizeLine_eq]; omega, ?_⟩
              have g56 := s56 _ _ g4
              have L7 : Lst H6 (upd H6 W (.lst (ur.reverse ++ uz.reverse))) := .but (U.SameBut.refl _ _).upd ⟨_, g56⟩ ⟨_, upd_same⟩
              refine ⟨k1.app r1, _, _, uz ++ ur, _, by rw [Fo.app_size]; omega, by omega, by rw [List.length_append, List.length_singleton, Fo.app_size]; omega, rfl, ?_, ?_, IsAll.lst L7 (IsAll.keep s56 ha4), ?_, hg.2.2.1.app hg.2.2.2, ?_, hpre⟩
              · rw [upd_ne (Ne.symm WD)]
                exact s56 _ _ g4D
              · rw [List.reverse_append]
                exact upd_same
              · rw [Fo.app_roots, List.map_append]
                exact IsAll.lst L7 ((IsAll.keep s6 hu).app (IsAll.keep s56 hr4))
              · intro c o q
                rw [upd_ne (fun z => by rw [z, nW0] at q; cases q)]
                exact s56 _ _ (s4 c o q)
end
section
open PySem.Spec PyProof.Rows
theorem pe_bm0K {X : Cx} {K : PySem.W.Frag} {T : String} {name : Str} {id : String} {r : V → List V → Hp → VK → Prop} {o : Expr} {to : TE} {apos cpos : Pos} (hK : X.K = K) (pa : PlainAttrs T) (slot : Slot T name id)
    (hty : typeOf (.builtin id) = pure (.type "method_descriptor")) (hm : MtR X id r) (ho : PE X o to)
    (hbase : attributeBase o name X.env (eval o X.env) = eval o X.env := by rfl) (hline : (apos.endLine == cpos.line) = true := by rfl) : PE X (.Call (.Attribute o name apos) [] [] cpos) (tBM0 K T r to) := by
  subst hK
  exact pe_bm0 pa slot hty hm ho hbase hline
end
/-- the numbers of the parts within the i-th part -/
def Fo.kn (f : Fo) (i : Nat) : List Nat := match f.at i with
  | .nil => []
  | .node _ _ _ k _ => k.nums (i + 1)
section
variable {P : Program} {w : World} {K : PySem.W.Frag} {mg : Str → Option Value} {base : Heap} {A : Ad}
def spInner (K : PySem.W.Frag) : Sp := fun vs H Q _ => ∃ (q : Addr) (us : List V) (f : Fo), vs = [.ref q] ∧ H q = some (.lst us) ∧ IsAll K H (f.pre.map Prod.fst) us ∧ FoOk f ∧ f.size ≤ 1000 ∧
  ∀ H' l rs, Same H H' → H' l = some (.lst rs) → rs.length = f.size → (∀ i r, rs[i]? = some r → ∃ p, r = .ref p ∧ H' p = some (.lst (nV (f.kn i)))) → Q (.ref l) H'
theorem ok_inner_numbers (T : Top w K mg A) : FnOk P w K mg base CX0 2 A.a_inner_numbers A.fd_inner_numbers ["steps"] (spInner K) := by
  refine T.F_inner_numbers.ok sc_inner_numbers (fun vs H Q E h => ?_) (fun cdv A' outer s H vs Q E hr h => ?_)
  · obtain ⟨q, _, _, rfl, _⟩ := h
    rfl
  · obtain ⟨q, us, f, rfl, hq, ha, hf, hsz, k⟩ := h
    refine ⟨_, (pss_cons (ps_set (i := 1) sc_inner_numbers.nd rfl (Or.inl rfl) (pe_lst pa_nil))
    (pss_cons (ps_set (i := 2) sc_inner_numbers.nd rfl (Or.inr rfl) (pe_lst pa_nil))
    (pss_cons (ps_set (i := 3) sc_inner_numbers.nd rfl (Or.inl rfl) (pe_callB (U.uLen (K := K) rfl) (by rfl) T.n_len (by decide +kernel) (pa_cons (pv 0) pa_nil)))
    (pss_cons (ps_for PassesOwn.never rfl (pi_list (pe_revL (pv 0))) (pg_name (i := 4) sc_inner_numbers.nd rfl (Or.inl rfl)) (pss_cons (ps_aug (i := 3) sc_inner_numbers.nd rfl (Or.inl rfl) pe_int ip_sub)
    (pss_cons (ps_expr (pe_bm PySem.F.plainAttrs_list PySem.F.slot_list_append PySem.F.type_list_append mt_append (pv 1) (pa_cons (pe_ifExp (pt_cmpR (op_inT (K := K) (w := w) rfl rfl) (pe_ix (U.uIx (K := K) rfl) (pv 4) pe_int (fun _ _ => rfl)) (U.pe_con_ T.m_LEAVES) rfl) (pe_lst pa_nil) (pe_lc (own := [("_", 5)]) rfl sc_inner_numbers.nd (pi_tup (pe_call (ok_parts_in T) (hr.mono (by decide)) rfl T.m_parts_in T.F_parts_in.kp T.b_parts_in .nil pass0 (pa_cons (pv 4) pa_nil))) (blkOk_by (own := [("_", 5)]) (N := nm_inner_numbers) (sc := defScope s_inner_numbers) (by decide +kernel)) (fun _ _ _ _ _ => (pg_name (i := 5) sc_inner_numbers.nd rfl (Or.inl rfl))) (fun _ _ _ _ _ => pts_nil) (fun _ _ _ _ _ => (pe_bm0K (K := K) rfl PySem.F.plainAttrs_list PySem.F.slot_list_pop PySem.F.type_list_pop mt_pop (pv 2))))) pa_nil)))
    (pss_one (ps_expr (pe_bm PySem.F.plainAttrs_list PySem.F.slot_list_append PySem.F.type_list_append mt_append (pv 2) (pa_cons (pv 3) pa_nil)))))))
    (pss_one (ps_ret (pe_revL (pv 1)))))))), ?_⟩
    have hul : us.length = f.size := by rw [← ha.len, List.length_map, Fo.pre_len]
    walk_at "w"
    intro F nF; generalize hX : upd _ F _ = H1; obtain ⟨s1, g1⟩ := U.newF nF hX; clear hX
    walk_at "w"
    intro D nD; generalize hX : upd _ D _ = H2; obtain ⟨s2, g2⟩ := U.newF nD hX; clear hX
    walk_at "w"
    have DF : D ≠ F := fun z => by rw [z, g1] at nD; cases nD
    have nD0 : H D = none := s1.free nD
    have s02 := s1.trans s2
    refine Or.inr ⟨_, _, rfl, Or.inl (SqL.of (s02 _ _ hq)), ?_⟩
    walk_at "w"
    refine ⟨q, us, rfl, SqL.of (s02 _ _ hq), fun R nR => ?_⟩
    generalize hX : upd H2 R _ = H3
    obtain ⟨s3, g3⟩ := U.newF nR hX
    clear hX
    have RD : R ≠ D := fun z => by rw [z, g2] at nR; cases nR
    have RF : R ≠ F := fun z => by rw [z, s2 _ _ g1] at nR; cases nR
    have s03 := s02.trans s3
    have hsame : ∀ Hj : Hp, (∀ c o, c ≠ D → c ≠ F → H3 c = some o → Hj c = some o) → Same H Hj := fun Hj kp c o e => kp c o (fun z => by rw [z, nD0] at e; cases e) (fun z => by rw [z, nF] at e; cases e) (s03 _ _ e)
    refine ⟨R, rfl, ⟨_, SqL.of g3⟩, ?_⟩
    refine for_list (K := K) (xs := us.reverse) (fun j σ Hj => ∃ (fs : List V) (o4 o5 : Option V), σ = [some (.ref q), some (.ref F), some (.ref D), some (.int ((us.length : Int) - (j : Nat))), o4, o5] ∧ (∀ c o, c ≠ D → c ≠ F → H3 c = some o → Hj c = some o) ∧ Hj F = some (.lst fs) ∧ Hj D = some (.lst (nV ((f.at (f.size - j)).nums (f.size - j))).reverse) ∧ fs.length = j ∧
      ∀ t r, fs[t]? = some r → ∃ p, r = .ref p ∧ p ≠ F ∧ p ≠ D ∧ Hj p = some (.lst (nV (f.kn (f.size - 1 - t))))) ⟨[], none, none, ?_, fun _ _ _ _ e => e, s3 _ _ (s2 _ _ g1), ?_, rfl, fun t r e => by cases e⟩ (fun j σ Hj _ st => ?_) ?_ ?_
    · rw [show (us.length : Int) - ((0 : Nat) : Int) = (us.length : Int) by omega]
      rfl
    · rw [Nat.sub_zero, f.at_end]
      exact s3 _ _ g2
    · obtain ⟨_, _, _, _, kp, _⟩ := st
      exact SqL.of (kp R _ RD RF g3)
    · rintro j x σ Hj hx ⟨fs, o4, o5, rfl, kp, gF, gD, hfl, hfs⟩
      have hjn : j < us.length := by
        have := (List.getElem?_eq_some_iff.mp hx).1
        rw [List.length_reverse] at this
        exact this
      rw [List.getElem?_reverse hjn] at hx
      obtain ⟨y, hy, hyv⟩ := ha.nth hx
      have hi : f.size - (j + 1) < f.size := by omega
      have eidx : us.length - 1 - j = f.size - (j + 1) := by omega
      rw [eidx] at hy
      obtain ⟨x1, s1', w1, k1, r1, hat, hpre, hat1⟩ := f.at_node hi
      rw [List.getElem?_map, hpre] at hy
      have ey : x1 = y := Option.some.inj hy
      subst ey
      have e1 : f.size - (j + 1) + 1 = f.size - j := by omega
      rw [e1] at hat1
      rw [hat1, Fo.nums_app] at gD
      have hok := hf.at (f.size - (j + 1))
      rw [hat] at hok
      have hnd := hok.1
      have hkn : f.kn (f.size - (j + 1)) = k1.nums (f.size - j) := by
        unfold Fo.kn
        rw [hat, ← e1]
      obtain ⟨hd, xr, ex, hlf, hlf2⟩ := hnd.head (A := A)
      have hpi := hnd.pi
      have hfew := hnd.few
      have h0j := hsame Hj kp
      have hyj := hyv.keep h0j
      subst ex
      have hnum : nV ((f.at (f.size - (j + 1))).nums (f.size - (j + 1))) = V.int ((f.size - (j + 1) : Nat) : Int) :: nV (r1.nums (f.size - j + k1.size)) := by
        rw [hat, ← e1]
        rfl
      have hint : (V.int ((us.length : Int) - (j : Nat) - 1)) = V.int ((f.size - (j + 1) : Nat) : Int) := by
        rw [show (us.length : Int) - (j : Nat) - 1 = ((f.size - (j + 1) : Nat) : Int) by omega]
      have fin : ∀ (H5 : Hp) (p : Addr) (o5 : Option V), Hj p = none → H5 p = some (.lst (nV (k1.nums (f.size - j)))) → H5 F = some (.lst (fs ++ [.ref p])) → H5 D = some (.lst (V.int ((us.length : Int) - (j : Nat) - 1) :: nV (r1.nums (f.size - j + k1.size))).reverse) → (∀ c o, c ≠ D → c ≠ F → Hj c = some o → H5 c = some o) →
          ∃ (fs : List V) (o4 o5' : Option V), [some (.ref q), some (.ref F), some (.ref D), some (.int ((us.length : Int) - (j : Nat) - 1)), some x, o5] = [some (.ref q), some (.ref F), some (.ref D), some (.int ((us.length : Int) - ((j + 1 : Nat) : Int))), o4, o5'] ∧ (∀ c o, c ≠ D → c ≠ F → H3 c = some o → H5 c = some o) ∧ H5 F = some (.lst fs) ∧ H5 D = some (.lst (nV ((f.at (f.size - (j + 1))).nums (f.size - (j + 1)))).reverse) ∧ fs.length = j + 1 ∧
            ∀ t r, fs[t]? = some r → ∃ p, r = .ref p ∧ p ≠ F ∧ p ≠ D ∧ H5 p = some (.lst (nV (f.kn (f.size - 1 - t)))) := by
        intro H5 p o5 hp h5p h5F h5D kp5
        have pF : p ≠ F := fun z => by rw [z, gF] at hp; cases hp
        have pD : p ≠ D := fun z => by rw [z, gD] at hp; cases hp
        refine ⟨fs ++ [.ref p], some x, o5, ?_, fun c o n1 n2 e => kp5 c o n1 n2 (kp c o n1 n2 e), h5F, by rw [hnum, ← hint]; exact h5D, by rw [List.length_append, hfl] <;> rfl, fun t r e => ?_⟩
        · rw [show (us.length : Int) - (j : Nat) - 1 = (us.length : Int) - ((j + 1 : Nat) : Int) by omega]
        · by_cases ht : t < fs.length
          · rw [List.getElem?_append_left ht] at e
            obtain ⟨p2, e2, n1, n2, g⟩ := hfs t r e
            exact ⟨p2, e2, n1, n2, kp5 _ _ n2 n1 g⟩
          · rw [List.getElem?_append_right (Nat.le_of_not_lt ht)] at e
            have ht2 : t - fs.length = 0 := by
              have := (List.getElem?_eq_some_iff.mp e).1
              rw [List.length_singleton] at this
              omega
            rw [ht2] at e
            have e := Option.some.inj e
            refine ⟨p, e.symm, pF, pD, ?_⟩
            rw [show f.size - 1 - t = f.size - (j + 1) by omega, hkn]
            exact h5p
      have hDF : D ≠ F := DF
      have hrl := r1.roots_le
      have hrn := r1.nums_len (f.size - j + k1.size)
      have hasz := f.at_size (f.size - (j + 1))
      rw [hat] at hasz
      have hasz : k1.size + r1.size + 1 = f.size - (f.size - (j + 1)) := hasz
      have hnl : (nV (r1.nums (f.size - j + k1.size))).length < sizeLine := by
        rw [nV, List.length_map, PySem.sizeLine_eq]
        omega
      walk_at "w"
      have hyj0 := hyj
      cases hyj with
      | @tup p _ vs tp hax =>
        cases hax with
        | cons h0 hax =>
          cases h0
          refine Or.inr (Or.inl ⟨_, _, _, _, rfl, rfl, tp.1, U.atN 0 rfl rfl, ?_⟩)
          walk_at "w"
          refine ⟨_, _, _, rfl, rfl, T.q_LEAVES, ?_⟩
          rw [hlf]
          cases hb : (PV.tup (PV.str hd :: xr)).leaf with
          | true =>
            walk_at "w"
            have hk : k1 = .nil := by
              have := hlf2 hb
              cases k1 with
              | nil => rfl
              | node _ _ _ _ _ => cases this
            intro N nN; generalize hX : upd _ N _ = H5; obtain ⟨s5, g5⟩ := U.newF nN hX; clear hX
            have NF : N ≠ F := fun z => by rw [z, gF] at nN; cases nN
            have ND : N ≠ D := fun z => by rw [z, gD] at nN; cases nN
            have gD5 : H5 D = some (.lst (nV (r1.nums (f.size - j + k1.size))).reverse) := by
              have h := s5 _ _ gD
              rw [hk] at h ⊢
              exact h
            have gN5 : H5 N = some (.lst (nV (k1.nums (f.size - j)))) := by
              rw [hk]
              exact g5
            walk_at "w"
            refine ⟨F, fs, _, rfl, rfl, s5 _ _ gF, U.szl (by omega), ?_⟩
            have g6F : (upd H5 F (.lst (fs ++ [.ref N]))) F = some (.lst (fs ++ [.ref N])) := upd_same
            have g6D : (upd H5 F (.lst (fs ++ [.ref N]))) D = some (.lst (nV (r1.nums (f.size - j + k1.size))).reverse) := by
              rw [upd_ne hDF]
              exact gD5
            have g6N : (upd H5 F (.lst (fs ++ [.ref N]))) N = some (.lst (nV (k1.nums (f.size - j)))) := by
              rw [upd_ne NF]
              exact gN5
            have kp6 : ∀ c o, c ≠ D → c ≠ F → Hj c = some o → (upd H5 F (.lst (fs ++ [.ref N]))) c = some o := fun c o n1 n2 e => by
              rw [upd_ne n2]
              exact s5 _ _ e
            generalize upd H5 F _ = H6 at g6F g6D g6N kp6 ⊢
            walk_at "w"
            refine ⟨D, _, _, rfl, rfl, g6D, by rw [List.length_reverse]; exact hnl, ?_⟩
            rw [← List.reverse_cons]
            refine fin _ N o5 nN ?_ ?_ upd_same (fun c o n1 n2 e => by rw [upd_ne n1]; exact kp6 c o n1 n2 e)
            · rw [upd_ne ND]
              exact g6N
            · rw [upd_ne (Ne.symm hDF)]
              exact g6F
          | false =>
            walk_at "w"
            refine ⟨_, _, _, rfl, hyj0, hpi, fun H5 q5 uz s5 hq5 hu => ?_⟩
            walk_at "w"
            intro N nN
            have hul2 := hu.len
            rw [List.length_map] at hul2
            have nN0 : Hj N = none := s5.free nN
            have NF : N ≠ F := fun z => by rw [z, gF] at nN0; cases nN0
            have ND : N ≠ D := fun z => by rw [z, gD] at nN0; cases nN0
            have hkn2 := k1.nums_len (f.size - j)
            refine lc_tup (xs := uz) (fun t H6 => SqT K H6 q5 uz ∧ H6 N = some (.lst (nV ((k1.nums (f.size - j)).take t))) ∧ H6 D = some (.lst (nV ((k1.nums (f.size - j)).drop t ++ r1.nums (f.size - j + k1.size))).reverse) ∧ ∀ c o, c ≠ D → Hj c = some o → H6 c = some o) ⟨?_, upd_same, ?_, ?_⟩ (fun t H6 _ st => st.1) ?_ ?_
            · exact sqT_same (same_new nN) hq5
            · rw [upd_ne (Ne.symm ND)]
              exact s5 _ _ gD
            · intro c o n1 e
              rw [upd_ne (fun z => by rw [z, nN0] at e; cases e)]
              exact s5 _ _ e
            · rintro t y H6 hy ⟨hq6, g6N, g6D, kp6⟩
              have htl : t < (k1.nums (f.size - j)).length := by
                have := (List.getElem?_eq_some_iff.mp hy).1
                omega
              have hdr : nV ((k1.nums (f.size - j)).drop t ++ r1.nums (f.size - j + k1.size)) = V.int (((k1.nums (f.size - j))[t] : Nat) : Int) :: nV ((k1.nums (f.size - j)).drop (t + 1) ++ r1.nums (f.size - j + k1.size)) := by
                rw [List.drop_eq_getElem_cons htl]
                rfl
              rw [hdr] at g6D
              refine ⟨rfl, ?_⟩
              walk_at "w"
              refine rPop_rev g6D ?_
              have hnN : ∀ c o, c ≠ D → Hj c = some o → c ≠ N := fun c o _ e z => by rw [z, nN0] at e; cases e
              refine ⟨_, by rw [upd_ne ND]; exact g6N, U.szl (by rw [nV, List.length_map, List.length_take]; rw [List.length_map] at hfew; omega), ?_, ?_, ?_, fun c o n1 e => ?_⟩
              · exact sqT_lstA ((Lst.but (U.SameBut.refl _ _).upd ⟨_, g6D⟩ ⟨_, upd_same⟩).trans (Lst.but (U.SameBut.refl _ _).upd ⟨_, by rw [upd_ne ND]; exact g6N⟩ ⟨_, upd_same⟩)) hq6
              · rw [upd_same, List.take_succ_eq_append_getElem htl]
                unfold nV
                rw [List.map_append]
                rfl
              · rw [upd_ne (Ne.symm ND)]
                exact upd_same
              · rw [upd_ne (hnN c o n1 e), upd_ne n1]
                exact kp6 c o n1 e
            · rintro H6 ⟨hq6, g6N, g6D, kp6⟩
              rw [← hul2, ← hkn2, List.take_length] at g6N
              rw [← hul2, ← hkn2, List.drop_length, List.nil_append] at g6D
              have g6F := kp6 F _ (Ne.symm hDF) gF
              walk_at "w"
              have g7F : (upd H6 F (.lst (fs ++ [.ref N]))) F = some (.lst (fs ++ [.ref N])) := upd_same
              have g7D : (upd H6 F (.lst (fs ++ [.ref N]))) D = some (.lst (nV (r1.nums (f.size - j + k1.size))).reverse) := by
                rw [upd_ne hDF]
                exact g6D
              have g7N : (upd H6 F (.lst (fs ++ [.ref N]))) N = some (.lst (nV (k1.nums (f.size - j)))) := by
                rw [upd_ne NF]
                exact g6N
              have kp7 : ∀ c o, c ≠ D → c ≠ F → Hj c = some o → (upd H6 F (.lst (fs ++ [.ref N]))) c = some o := fun c o n1 n2 e => by
                rw [upd_ne n2]
                exact kp6 c o n1 e
              generalize upd H6 F _ = H7 at g7F g7D g7N kp7 ⊢
              walk_at "w"
              refine ⟨D, _, _, rfl, rfl, g7D, by rw [List.length_reverse]; exact hnl, ?_⟩
              rw [← List.reverse_cons]
              refine fin _ N o5 nN0 ?_ ?_ upd_same (fun c o n1 n2 e => by rw [upd_ne n1]; exact kp7 c o n1 n2 e)
              · rw [upd_ne ND]
                exact g7N
              · rw [upd_ne (Ne.symm hDF)]
                exact g7F
    · rintro σ Hj ⟨fs, o4, o5, rfl, kp, gF, gD, hfl, hfs⟩
      have h0j := hsame Hj kp
      walk_at "w"
      refine ⟨F, fs, rfl, SqL.of gF, fun p np => ?_⟩
      generalize hX : upd Hj p _ = H5
      obtain ⟨s5, g5⟩ := U.newF np hX
      clear hX
      rw [List.length_reverse] at hfl
      refine k H5 p _ (h0j.trans s5) g5 (by rw [List.length_reverse, hfl, hul]) (fun i r hr => ?_)
      have hin : i < fs.length := by
        have := (List.getElem?_eq_some_iff.mp hr).1
        rw [List.length_reverse] at this
        exact this
      rw [List.getElem?_reverse hin] at hr
      obtain ⟨p2, e2, _, _, g⟩ := hfs _ _ hr
      refine ⟨p2, e2, ?_⟩
      rw [show f.size - 1 - (fs.length - 1 - i) = i by omega] at g
      exact s5 _ _ g
end
theorem ixN_natU {n j : Nat} (hj : j < n) : ixN n (j : Int) = some j := by
  unfold ixN
  rw [if_pos (by omega), if_pos (by omega)]
  simp
/-- a list with one value at all of some places -/
def setAll (ds : List V) (ks : List Nat) (v : V) : List V := ks.foldl (fun a m => a.set m v) ds
theorem setAll_snoc (ds : List V) (ks : List Nat) (m : Nat) (v : V) : setAll ds (ks ++ [m]) v = (setAll ds ks v).set m v := by
  unfold setAll
  rw [List.foldl_append]
  rfl
theorem setAll_len (v : V) : ∀ (ks : List Nat) (ds : List V), (setAll ds ks v).length = ds.length
  | [], ds => rfl
  | k :: r, ds => by
    show (setAll (ds.set k v) r v).length = _
    rw [setAll_len v r, List.length_set]
theorem setAll_in (v : V) : ∀ (ks : List Nat) (ds : List V) (m : Nat), m < ds.length → m ∈ ks → (setAll ds ks v)[m]? = some v
  | [], ds, m, h, h2 => by cases h2
  | k :: r, ds, m, h, h2 => by
    show (setAll (ds.set k v) r v)[m]? = _
    by_cases hr : m ∈ r
    · exact setAll_in v r _ m (by rw [List.length_set]; exact h) hr
    · have hk : m = k := by
        rcases List.mem_cons.mp h2 with e | e
        · exact e
        · exact absurd e hr
      subst hk
      have : ∀ (ks : List Nat) (ds : List V), m ∉ ks → (setAll ds ks v)[m]? = ds[m]? := fun ks => by
        induction ks with
        | nil => intro ds _; rfl
        | cons a b ih =>
          intro ds n
          show (setAll (ds.set a v) b v)[m]? = _
          rw [ih _ (fun q => n (List.mem_cons_of_mem _ q)), List.getElem?_set_ne (fun q => n (by rw [q]; exact List.mem_cons_self ..))]
      rw [this r _ hr, List.getElem?_set_self h]
theorem setAll_out (v : V) {m : Nat} : ∀ (ks : List Nat) (ds : List V), m ∉ ks → (setAll ds ks v)[m]? = ds[m]?
  | [], ds, _ => rfl
  | a :: b, ds, n => by
    show (setAll (ds.set a v) b v)[m]? = _
    rw [setAll_out v b _ (fun q => n (List.mem_cons_of_mem _ q)), List.getElem?_set_ne (fun q => n (by rw [q]; exact List.mem_cons_self ..))]
/-- a dict whose keys are the words -/
def ScD (H : Hp) (v : V) (s : List Str) : Prop := ∃ a kvs, v = .ref a ∧ H a = some (.dK kvs) ∧ kvs.length ≤ s.length ∧ (∀ z : Str, (valV kvs (.inr z)).isSome = decide (z ∈ s)) ∧ ∀ (z : Str) (u : V), valV kvs (.inr z) = some u → ∃ b i j, u = .ref b ∧ H b = some (.tup [.int i, .int j])
theorem ScD.no {H H' : Hp} (k : ∀ c o, H c = some o → (∀ l, o ≠ .lst l) → H' c = some o) {v : V} {s : List Str} (h : ScD H v s) : ScD H' v s := by
  obtain ⟨a, kvs, e, g, l, h1, h2⟩ := h
  refine ⟨a, kvs, e, k _ _ g nofun, l, h1, fun z u q => ?_⟩
  obtain ⟨b, i, j, e2, g2⟩ := h2 z u q
  exact ⟨b, i, j, e2, k _ _ g2 nofun⟩
section
variable {P : Program} {w : World} {K : PySem.W.Frag} {mg : Str → Option Value} {base : Heap} {A : Ad}
theorem Nd.kind {hd : Str} {xr ys : List PV} {o : Option Str} (h : Nd (.tup (.str hd :: xr)) o ys) : (hd = "fn" ∧ ∃ z b, o = some z ∧ xr = [.str z, b] ∧ ys = [b]) ∨ (hd ≠ "fn" ∧ hd ≠ "let" ∧ hd ≠ "rec" ∧ o = none) := by
  cases h with
  | fn z b => exact .inl ⟨rfl, z, b, rfl, rfl, rfl⟩
  | number n u => exact .inr ⟨by decide +kernel, by decide +kernel, by decide +kernel, rfl⟩
  | name z => exact .inr ⟨by decide +kernel, by decide +kernel, by decide +kernel, rfl⟩
  | fail z => exact .inr ⟨by decide +kernel, by decide +kernel, by decide +kernel, rfl⟩
  | call a b => exact .inr ⟨by decide +kernel, by decide +kernel, by decide +kernel, rfl⟩
  | tag t c => exact .inr ⟨by decide +kernel, by decide +kernel, by decide +kernel, rfl⟩
  | record h l => exact .inr ⟨by decide +kernel, by decide +kernel, by decide +kernel, rfl⟩
theorem ok_is_row (T : Top w K mg A) : FnOk P w K mg base CX0 1 A.a_is_row A.fd_is_row ["part"] (fun vs H Q _ => ∃ (h : Str) (xs : List PV) (v : V), vs = [v] ∧ Is K H (.tup (.str h :: xs)) v ∧ Q (.bl false) H) := by
  refine T.F_is_row.ok sc_is_row (fun vs H Q E h => ?_) (fun cdv A' outer s H vs Q E hr h => ?_)
  · obtain ⟨_, _, v, rfl, _⟩ := h
    rfl
  · obtain ⟨h0, xs, v, rfl, hx, k⟩ := h
    refine ⟨_, (pss_one (ps_ret (pe_callB call_isi (by rfl) T.n_isinstance (by decide +kernel) (pa_cons (pe_ix (U.uIx (K := K) rfl) (pv 0) pe_int (fun _ _ => rfl)) (pa_cons (pe_bltn (v := .ty "tuple") (by rfl) T.n_tuple (by decide +kernel) rfl) pa_nil))))), ?_⟩
    walk_at "w"
    cases hx with
    | @tup p _ vs tp ha =>
      cases ha with
      | cons h0 ha =>
        cases h0
        refine Or.inr (Or.inl ⟨_, _, _, _, rfl, rfl, tp.1, U.atN 0 rfl rfl, ?_⟩)
        walk_at "w"
        refine ⟨_, _, _, _, _, rfl, .ty _, .base (.str _), kt_str.1, ?_⟩
        exact k
def spScopes (K : PySem.W.Frag) : Sp := fun vs H Q _ => ∃ (q l : Addr) (us rs : List V) (f : Fo), vs = [.ref q, .ref l] ∧ H q = some (.lst us) ∧ IsAll K H (f.pre.map Prod.fst) us ∧ H l = some (.lst rs) ∧ rs.length = f.size ∧
  (∀ i r, rs[i]? = some r → ∃ p, r = V.ref p ∧ H p = some (HO.lst (nV (f.kn i)))) ∧ FoOk f ∧ (∀ t ∈ f.roots, t.2 = []) ∧ (∀ t ∈ f.pre, t.2.length ≤ 1000) ∧ f.size ≤ 1000 ∧
  ∀ H' l2 ds, Same H H' → H' l2 = some (.lst ds) → ds.length = f.size → (∀ (m : Nat) (t : PV × List Str) (d : V), f.pre[m]? = some t → ds[m]? = some d → ScD H' d t.2) → Q (.ref l2) H'
theorem ok_scopes_in (T : Top w K mg A) : FnOk P w K mg base CX0 2 A.a_scopes_in A.fd_scopes_in ["steps", "inner"] (spScopes K) := by
  refine T.F_scopes_in.ok sc_scopes_in (fun vs H Q E h => ?_) (fun cdv A' outer s H vs Q E hr h => ?_)
  · obtain ⟨q, l, _, _, _, rfl, _⟩ := h
    rfl
  · obtain ⟨q, l, us, rs, f, rfl, hq, ha, hl, hrl, hrs, hf, hro, hwd, hsz, k⟩ := h
    refine ⟨_, (pss_cons (ps_setLc (i := 2) (own := [("_", 10)]) rfl sc_scopes_in.nd rfl rfl (sw_true rfl rfl rfl (by decide +kernel)) (pi_list (pv 0)) (blkOk_by (own := [("_", 10)]) (N := nm_scopes_in) (sc := defScope s_scopes_in) (by decide +kernel)) (fun _ _ _ _ _ => (pg_name (i := 10) sc_scopes_in.nd rfl (Or.inl rfl))) (fun _ _ _ _ _ => pts_nil) (fun _ _ _ _ _ => pe_dnewK))
    (pss_cons (ps_for PassesOwn.never rfl (pi_enum (by rfl) T.n_enumerate (pa_cons (pv 0) pa_nil)) (pg_tup rfl (pgs_cons (pg_name (i := 3) sc_scopes_in.nd rfl (Or.inl rfl)) (pgs_cons (pg_name (i := 4) sc_scopes_in.nd rfl (Or.inl rfl)) pgs_nil))) (pss_cons (ps_set (i := 5) sc_scopes_in.nd rfl (Or.inl rfl) (pe_ix (U.uIx (K := K) rfl) (pv 4) pe_int (fun _ _ => rfl)))
    (pss_cons (ps_if (pt_cmpR (op_inT (K := K) (w := w) rfl rfl) (pv 5) (U.pe_con_ T.m_LEAVES) rfl) (pss_one ps_continue) pss_nil)
    (pss_cons (ps_set (i := 6) sc_scopes_in.nd rfl (Or.inl rfl) (pe_ix (U.uIx (K := K) rfl) (pv 2) (pv 3) (fun _ _ => rfl)))
    (pss_cons (ps_set (i := 7) sc_scopes_in.nd rfl (Or.inl rfl) (pe_ix (U.uIx (K := K) rfl) (pv 1) (pv 3) (fun _ _ => rfl)))
    (pss_cons (ps_for PassesOwn.never rfl (pi_list (pv 7)) (pg_name (i := 8) sc_scopes_in.nd rfl (Or.inl rfl)) (pss_one (ps_asg (pv 6) (pg_sub (pv 2) (pv 8) set_list))))
    (pss_one (ps_if (pt_cmpR (U.uEq (K := K) rfl hr.units) (pv 5) pe_str (nomark _)) (pss_one (ps_asg (pe_dmerge (pv 6) (pe_ix (U.uIx (K := K) rfl) (pv 4) pe_int (fun _ _ => rfl)) (pe_tup (pa_cons (pv 3) (pa_cons pe_int pa_nil)))) (pg_sub (pv 2) (pe_ix (U.uIx (K := K) rfl) (pv 7) pe_int (fun _ _ => rfl)) set_list))) (pss_one (ps_if (pt_cmpR (U.uEq (K := K) rfl hr.units) (pv 5) pe_str (nomark _)) (pss_one ps_false) (pss_one (ps_if (pt_cmpR (U.uEq (K := K) rfl hr.units) (pv 5) pe_str (nomark _)) (pss_cons ps_false (pss_one ps_false)) (pss_one (ps_if (pt_val (pe_call (ok_is_row T) (hr.mono (by decide)) rfl T.m_is_row T.F_is_row.kp T.b_is_row .nil pass0 (pa_cons (pv 4) pa_nil))) (pss_cons ps_false (pss_cons ps_false (pss_one ps_false))) pss_nil))))))))))))))
    (pss_one (ps_ret (pv 2))))), ?_⟩
    have hul : us.length = f.size := by rw [← ha.len, List.length_map, Fo.pre_len]
    walk_at "w"
    refine ⟨⟨_, SqL.of hq⟩, fun D nD => ?_⟩
    refine lc_list (xs := us) (fun i Hj => ∃ ds, Hj D = some (.lst ds) ∧ ds.length = i ∧ (∀ d ∈ ds, ScD Hj d []) ∧ Same H Hj) ⟨[], upd_same, rfl, (fun _ h => by cases h), same_new nD⟩ (fun i Hj _ st => ?_) ?_ ?_
    · obtain ⟨_, _, _, _, sj⟩ := st
      exact SqL.of (sj _ _ hq)
    · rintro i x Hj hx ⟨ds, gD, hdl, hds, sj⟩
      have hin := (List.getElem?_eq_some_iff.mp hx).1
      walk_at "w"
      refine ⟨rfl, ?_⟩
      walk_at "w"
      intro p np
      have pD : p ≠ D := fun z => by rw [z, gD] at np; cases np
      refine ⟨ds, by rw [upd_ne (Ne.symm pD)]; exact gD, U.szl (by omega), ds ++ [.ref p], upd_same, by rw [List.length_append, hdl] <;> rfl, fun d hd => ?_, fun c o e => ?_⟩
      · rcases List.mem_append.mp hd with hd | hd
        · exact (hds d hd).no fun c o e n => by
            rw [upd_ne (fun z => by rw [z, gD] at e; exact n ds (Option.some.inj e).symm), upd_ne (fun z => by rw [z, np] at e; cases e)]
            exact e
        · have hd := List.mem_singleton.mp hd
          exact ⟨p, [], hd, by rw [upd_ne pD]; exact upd_same, Nat.le_refl _, fun z => rfl, fun z u q => by cases q⟩
      · rw [upd_ne (fun z => by rw [z, nD] at e; cases e), upd_ne (fun z => by have := sj _ _ e; rw [z, np] at this; cases this)]
        exact sj _ _ e
    · rintro H3 ⟨ds0, gD0, hdl0, hds0, s3⟩
      walk_at "w"
      refine ⟨q, us, rfl, SqL.of (s3 _ _ hq), ?_⟩
      have qD : q ≠ D := fun z => by rw [z, nD] at hq; cases hq
      refine for_it (walk_enum (xs := us)) (fun i σ Hj => ∃ (ds : List V) (o3 o4 o5 o6 o7 o8 o9 o10 : Option V), σ = [some (.ref q), some (.ref l), some (.ref D), o3, o4, o5, o6, o7, o8, o9, o10] ∧ Hj D = some (.lst ds) ∧ ds.length = f.size ∧ U.SameBut D H3 Hj ∧
        ∀ (m : Nat) (t : PV × List Str) (d : V), f.pre[m]? = some t → ds[m]? = some d → (m < i ∨ m ∈ (f.at i).nums i) → ScD Hj d t.2) ⟨ds0, none, none, none, none, none, none, none, none, rfl, gD0, by rw [hdl0, hul], U.SameBut.refl _ _, fun m t d h1 h2 h3 => ?_⟩ (fun i σ Hj _ st => ?_) ?_ ?_
      · rcases h3 with h3 | h3
        · omega
        · obtain ⟨j, hj⟩ := List.getElem?_of_mem h3
          have hjl : j < f.roots.length := by
            rw [← f.nums_len 0]
            exact (List.getElem?_eq_some_iff.mp hj).1
          have h4 := f.root_at f.pre 0 [] (by rw [List.append_nil]; rfl) j m _ hj (List.getElem?_eq_getElem hjl)
          rw [h1] at h4
          have h5 := hro _ (List.getElem_mem hjl)
          rw [← Option.some.inj h4] at h5
          rw [h5]
          exact hds0 d (List.mem_of_getElem? h2)
      · obtain ⟨_, _, _, _, _, _, _, _, _, _, _, _, sb, _⟩ := st
        exact SqL.of (sb q _ qD (s3 _ _ hq))
      · rintro i x σ Hj Hj' hi ⟨ds, o3, o4, o5, o6, o7, o8, o9, o10, rfl, gD, hdl, sb, hds⟩ ⟨T1, x1, y1, rfl, nT, rfl, ex, hy⟩
        cases ex
        generalize hX : upd Hj T1 _ = H4
        obtain ⟨s4, g4⟩ := U.newF nT hX
        clear hX
        have nTH : H T1 = none := by
          have h3 := U.Same.but s3 sb nD
          exact h3.free nT
        have TD : T1 ≠ D := fun z => by rw [z, gD] at nT; cases nT
        have sb4 : U.SameBut D H3 H4 := sb.trans (.of s4)
        have s04 : Same H H4 := U.Same.but s3 sb4 nD
        have gD4 := s4 _ _ gD
        have hds4 : ∀ (m : Nat) (t : PV × List Str) (d : V), f.pre[m]? = some t → ds[m]? = some d → (m < i ∨ m ∈ (f.at i).nums i) → ScD H4 d t.2 := fun m t d h1 h2 h3 => (hds m t d h1 h2 h3).no fun c o e _ => s4 c o e
        have hin : i < f.size := by omega
        obtain ⟨x1, s1', w1, k1, r1, hat, hpre, hat1⟩ := f.at_node hin
        obtain ⟨y, hy2, hyv⟩ := ha.nth hy
        rw [List.getElem?_map, hpre] at hy2
        have ey : x1 = y := Option.some.inj hy2
        subst ey
        have hok := hf.at i
        rw [hat] at hok
        have hnd := hok.1
        have hkn : f.kn i = k1.nums (i + 1) := by
          unfold Fo.kn
          rw [hat]
        have hnum : (f.at i).nums i = i :: r1.nums (i + 1 + k1.size) := by
          rw [hat]
          rfl
        have hnum1 : (f.at (i + 1)).nums (i + 1) = k1.nums (i + 1) ++ r1.nums (i + 1 + k1.size) := by
          rw [hat1, Fo.nums_app]
        have hps : f.pre.drop i = (x1, s1') :: (k1.pre ++ r1.pre) := by
          have := f.at_pre i
          rw [hat] at this
          exact this.symm
        have hkp : f.pre.drop (i + 1) = k1.pre ++ r1.pre := by
          rw [← List.drop_drop, hps] <;> rfl
        have hroot : ∀ m ∈ k1.nums (i + 1), ∀ t, f.pre[m]? = some t → t.2 = ext s1' w1 := fun m hm t ht => by
          obtain ⟨j, hj⟩ := List.getElem?_of_mem hm
          have hjl : j < k1.roots.length := by
            rw [← k1.nums_len (i + 1)]
            exact (List.getElem?_eq_some_iff.mp hj).1
          have h4 := k1.root_at f.pre (i + 1) r1.pre hkp j m _ hj (List.getElem?_eq_getElem hjl)
          rw [ht] at h4
          rw [Option.some.inj h4]
          exact hok.2.1 _ (List.getElem_mem hjl)
        obtain ⟨hd, xr, ex, hlf, hlf2⟩ := hnd.head (A := A)
        have hfew := hnd.few
        have hy4 := hyv.keep s04
        subst ex
        refine ⟨T1, _, rfl, SqT.of g4, rfl, ?_⟩
        walk_at "w"
        have hy40 := hy4
        cases hy4 with
        | @tup p _ vs tp hax =>
          cases hax with
          | cons h0 hax =>
            cases h0
            refine Or.inr (Or.inl ⟨_, _, _, _, rfl, rfl, tp.1, U.atN 0 rfl rfl, ?_⟩)
            walk_at "w"
            refine ⟨_, _, _, rfl, rfl, T.q_LEAVES, ?_⟩
            rw [hlf]
            cases hb : (PV.tup (PV.str hd :: xr)).leaf with
            | true =>
              walk_at "w"
              have hk : k1 = .nil := by
                have := hlf2 hb
                cases k1 with
                | nil => rfl
                | node _ _ _ _ _ => cases this
              refine ⟨ds, _, _, _, _, _, _, _, _, rfl, gD4, hdl, sb4, fun m t d h1 h2 h3 => hds4 m t d h1 h2 ?_⟩
              rw [hnum1, hk] at h3
              rw [hnum, hk]
              rcases h3 with h3 | h3
              · by_cases e : m = i
                · exact .inr (e ▸ List.mem_cons_self ..)
                · exact .inl (by omega)
              · exact .inr (List.mem_cons_of_mem _ h3)
            | false =>
              walk_at "w"
              have hidl : i < ds.length := by omega
              refine Or.inl ⟨D, ds, _, _, rfl, rfl, SqL.of gD4, U.atN i rfl (List.getElem?_eq_getElem hidl), ?_⟩
              walk_at "w"
              have hirl : i < rs.length := by omega
              obtain ⟨pk, ek, gk⟩ := hrs i _ (List.getElem?_eq_getElem hirl)
              refine Or.inl ⟨l, rs, _, _, rfl, rfl, SqL.of (s04 _ _ hl), U.atN i rfl (List.getElem?_eq_getElem hirl), ?_⟩
              rw [ek, hkn] at *
              walk_at "w"
              have pkD : pk ≠ D := fun z => by rw [z, nD] at gk; cases gk
              refine ⟨⟨_, SqL.of (s04 _ _ gk)⟩, ?_⟩
              obtain ⟨a0, kvs, ea, ga, hkl, hk1, hk2⟩ := hds4 i _ _ hpre (List.getElem?_eq_getElem hidl) (.inr (by rw [hnum]; exact List.mem_cons_self ..))
              have hkl : kvs.length ≤ s1'.length := hkl
              have hwl : s1'.length ≤ 1000 := hwd _ (List.mem_of_getElem? hpre)
              have aD : a0 ≠ D := fun z => by rw [z, gD4] at ga; cases ga
              refine for_list (K := K) (xs := nV (k1.nums (i + 1))) (fun t σ Hj => ∃ o8 : Option V, σ = [some (.ref q), some (.ref l), some (.ref D), some (.int (i : Nat)), some (.ref p), some (.str hd), some ds[i], some (.ref pk), o8, o9, o10] ∧ Hj D = some (.lst (setAll ds ((k1.nums (i + 1)).take t) ds[i])) ∧ U.SameBut D H4 Hj) ⟨o8, rfl, gD4, U.SameBut.refl _ _⟩ (fun t σ Hj _ st => ?_) ?_ ?_
              · obtain ⟨_, _, _, sj⟩ := st
                have := sj pk _ pkD (s04 _ _ gk)
                rw [hkn] at this
                exact SqL.of this
              · rintro t x σ Hj hx ⟨o8, rfl, gDj, sj⟩
                unfold nV at hx
                rw [List.getElem?_map] at hx
                obtain ⟨m, hm, rfl⟩ := Option.map_eq_some_iff.mp hx
                have hm2 := k1.nums_ge (i + 1) m (List.mem_of_getElem? hm)
                have htl := (List.getElem?_eq_some_iff.mp hm).1
                have hmn : m < ds.length := by
                  have h5 := congrArg List.length hkp
                  rw [List.length_drop, List.length_append, f.pre_len, k1.pre_len, r1.pre_len] at h5
                  omega
                walk_at "w"
                refine ⟨D, _, _, m, rfl, rfl, gDj, ixN_natU (by rw [setAll_len]; exact hmn), ?_⟩
                refine ⟨_, rfl, ?_, sj.upd⟩
                rw [upd_same, List.take_succ_eq_append_getElem htl, setAll_snoc]
                rw [(List.getElem?_eq_some_iff.mp hm).2]
              · rintro σ Hj ⟨o8, rfl, gDj, sj⟩
                rw [show (nV (k1.nums (i + 1))).length = (k1.nums (i + 1)).length from List.length_map .., List.take_length] at gDj
                have sbj := sb4.trans sj
                have s0j : Same H Hj := U.Same.but s3 sbj nD
                have gaj := sj a0 _ aD ga
                have hdsj : ∀ (m : Nat) (t : PV × List Str) (d : V), f.pre[m]? = some t → ds[m]? = some d → (m < i ∨ m ∈ (f.at i).nums i) → ScD Hj d t.2 := fun m t d h1 h2 h3 => (hds4 m t d h1 h2 h3).no fun c o e n => sj c o (fun z => by rw [z, gD4] at e; exact n ds (Option.some.inj e).symm) e
                have hyj := hyv.keep s0j
                have hout : ∀ m, m ∈ k1.nums (i + 1) → ¬ (m < i + 1 ∨ m ∈ r1.nums (i + 1 + k1.size)) := fun m hm hm2 => by
                  have h5 := k1.nums_ge _ _ hm
                  rcases hm2 with h6 | h6
                  · omega
                  · have := r1.nums_ge _ _ h6
                    omega
                have hold : ∀ (m : Nat) (t : PV × List Str) (d : V), f.pre[m]? = some t → ds[m]? = some d → (m < i + 1 ∨ m ∈ r1.nums (i + 1 + k1.size)) → ScD Hj d t.2 := fun m t d h1 h2 h3 => hdsj m t d h1 h2 (by
                  rw [hnum]
                  rcases h3 with h3 | h3
                  · by_cases e : m = i
                    · exact .inr (e ▸ List.mem_cons_self ..)
                    · exact .inl (by omega)
                  · exact .inr (List.mem_cons_of_mem _ h3))
                have hkm : ∀ m, m ∈ k1.nums (i + 1) → m < ds.length := fun m hm => by
                  have h5 := congrArg List.length hkp
                  have h6 := k1.nums_ge _ _ hm
                  rw [List.length_drop, List.length_append, f.pre_len, k1.pre_len, r1.pre_len] at h5
                  omega
                walk_at "w"
                rcases hnd.kind with ⟨rfl, z, bb, rfl, rfl, hroots⟩ | ⟨n1, n2, n3, rfl⟩
                · walk_at "w"
                  refine U.ifDs (fun _ => ?_) (fun e => absurd rfl e)
                  obtain ⟨m0, hm0⟩ : ∃ m0, k1.nums (i + 1) = [m0] := by
                    have h5 := k1.nums_len (i + 1)
                    have h6 := congrArg List.length hroots
                    rw [List.length_map] at h6
                    rw [h6] at h5
                    cases h7 : k1.nums (i + 1) with
                    | nil => rw [h7] at h5; cases h5
                    | cons a b =>
                      cases b with
                      | nil => exact ⟨a, rfl⟩
                      | cons c d => rw [h7] at h5; cases h5
                  have hm0n := hkm m0 (by rw [hm0]; exact List.mem_cons_self ..)
                  intro p5 n5
                  have p5D : p5 ≠ D := fun e => by rw [e, gDj] at n5; cases n5
                  have p5a : a0 ≠ p5 := fun e => by rw [← e, gaj] at n5; cases n5
                  have s5 : Same Hj (upd Hj p5 (.dK [])) := same_new n5
                  have g5 : (upd Hj p5 (.dK [])) p5 = some (.dK []) := upd_same
                  generalize upd Hj p5 (.dK []) = H5 at s5 g5 ⊢
                  walk_at "w"
                  refine ⟨a0, kvs, ea, .inl (s5 _ _ gaj), p5a, g5, fun q6 n6 => ?_⟩
                  have n6j : Hj q6 = none := s5.free n6
                  have q6p : q6 ≠ p5 := fun e => by rw [e, g5] at n6; cases n6
                  have q6D : q6 ≠ D := fun e => by rw [e, gDj] at n6j; cases n6j
                  have s6 : Same Hj (upd (upd H5 p5 (.dK kvs)) q6 (.dK [])) := fun c o e => by
                    rw [upd_ne (fun z => by rw [z, n6j] at e; cases e), upd_ne (fun z => by rw [z, n5] at e; cases e)]
                    exact s5 _ _ e
                  have g6q : (upd (upd H5 p5 (.dK kvs)) q6 (.dK [])) q6 = some (.dK []) := upd_same
                  have g6p : (upd (upd H5 p5 (.dK kvs)) q6 (.dK [])) p5 = some (.dK kvs) := by rw [upd_ne (Ne.symm q6p)]; exact upd_same
                  generalize upd (upd H5 p5 (.dK kvs)) q6 (.dK []) = H6 at s6 g6q g6p ⊢
                  have hy6 := hyj.keep s6
                  walk_at "w"
                  cases hy6 with
                  | @tup p' _ vs' tp' hax' =>
                    cases hax' with
                    | cons h0' hax' =>
                      cases h0'
                      cases hax' with
                      | cons h1' hax' =>
                        cases h1'
                        refine Or.inr (Or.inl ⟨_, _, _, _, rfl, rfl, tp'.1, U.atN 1 rfl rfl, ?_⟩)
                        walk_at "w"
                        intro t7 n7; generalize hX : upd _ t7 _ = H7; obtain ⟨s7, g7⟩ := U.newF n7 hX; clear hX
                        refine ⟨.inr z, rfl, s7 _ _ g6q, s7 _ _ g6p, by rw [PySem.sizeLine_eq]; omega, ?_⟩
                        have n7j : Hj t7 = none := s6.free n7
                        have t7p : t7 ≠ p5 := fun e => by rw [e, g6p] at n7; cases n7
                        have t7q : t7 ≠ q6 := fun e => by rw [e, g6q] at n7; cases n7
                        have s67 := s6.trans s7
                        have s8 : Same Hj (upd (upd H7 q6 (.dK [(.inr z, .ref t7)])) p5 (.dK (mergeK kvs [(.inr z, .ref t7)]))) := fun c o e => by
                          rw [upd_ne (fun z => by rw [z, n5] at e; cases e), upd_ne (fun z => by rw [z, n6j] at e; cases e)]
                          exact s67 _ _ e
                        have g8 : (upd (upd H7 q6 (.dK [(.inr z, .ref t7)])) p5 (.dK (mergeK kvs [(.inr z, .ref t7)]))) p5 = some (.dK (mergeK kvs [(.inr z, .ref t7)])) := upd_same
                        have g8t : (upd (upd H7 q6 (.dK [(.inr z, .ref t7)])) p5 (.dK (mergeK kvs [(.inr z, .ref t7)]))) t7 = some (.tup [.int (i : Nat), .int 0]) := by
                          rw [upd_ne t7p, upd_ne t7q]
                          exact g7
                        generalize (upd (upd H7 q6 (.dK [(.inr z, .ref t7)])) p5 (.dK (mergeK kvs [(.inr z, .ref t7)]))) = H8 at s8 g8 g8t ⊢
                        have hsc : ScD H8 (.ref p5) (z :: s1') := by
                          refine ⟨p5, _, rfl, g8, ?_, fun y => ?_, fun y u e => ?_⟩
                          · have := length_mergeK [((Sum.inr z : Key), V.ref t7)] kvs
                            rw [List.length_singleton] at this
                            rw [List.length_cons]
                            omega
                          · show (valV (putK kvs (.inr z) (.ref t7)) (.inr y)).isSome = _
                            rw [valV_put]
                            by_cases e : y = z
                            · rw [if_pos (congrArg Sum.inr e), e, decide_eq_true (List.mem_cons_self ..)] <;> rfl
                            · rw [if_neg (fun q => e (Sum.inr.inj q)), hk1 y]
                              simp [e]
                          · have e : valV (putK kvs (.inr z) (.ref t7)) (.inr y) = some u := e
                            rw [valV_put] at e
                            by_cases e2 : (Sum.inr y : Key) = .inr z
                            · rw [if_pos e2] at e
                              exact ⟨t7, _, _, (Option.some.inj e).symm, g8t⟩
                            · rw [if_neg e2] at e
                              obtain ⟨b3, i3, j3, e3, g3⟩ := hk2 y u e
                              exact ⟨b3, i3, j3, e3, s8 _ _ (sj _ _ (fun e => by rw [e, gD4] at g3; cases g3) g3)⟩
                        have gk8 := s8 _ _ (s0j _ _ gk)
                        rw [hkn, hm0] at gk8
                        walk_at "w"
                        have g8D := s8 _ _ gDj
                        refine ⟨D, _, _, m0, rfl, rfl, g8D, ixN_natU (by rw [setAll_len]; exact hm0n), ?_⟩
                        refine ⟨_, _, _, _, _, _, _, _, _, rfl, upd_same, by rw [List.length_set, setAll_len]; exact hdl, (sbj.trans (.of s8)).upd, fun m t d h1 h2 h3 => ?_⟩
                        have hno : ∀ {H9 : Hp} {v : V} {s : List Str}, ScD H9 v s → H9 D = some (.lst (setAll ds (k1.nums (i + 1)) ds[i])) → ScD (upd H9 D (.lst ((setAll ds (k1.nums (i + 1)) ds[i]).set m0 (.ref p5)))) v s := fun h9 g9 => h9.no fun c o e n => by
                          rw [upd_ne (fun z => by rw [z, g9] at e; exact n _ (Option.some.inj e).symm)]
                          exact e
                        refine hno ?_ g8D
                        rw [hnum1, hm0] at h3
                        by_cases hm : m = m0
                        · rw [hm, List.getElem?_set_self (by rw [setAll_len]; exact hm0n)] at h2
                          rw [← Option.some.inj h2, hroot m (by rw [hm0, hm]; exact List.mem_cons_self ..) t h1]
                          exact hsc
                        · rw [List.getElem?_set_ne (Ne.symm hm), setAll_out _ _ _ (by rw [hm0]; exact fun q => hm (List.mem_singleton.mp q))] at h2
                          refine (hold m t d h1 h2 (h3.imp id fun h4 => ?_)).no fun c o e _ => s8 c o e
                          rcases List.mem_append.mp h4 with h4 | h4
                          · exact absurd (List.mem_singleton.mp h4) hm
                          · exact h4
                · refine U.ifDs (fun e => absurd e n1) (fun _ => ?_)
                  walk_at "w"
                  refine U.ifDs (fun e => absurd e n2) (fun _ => ?_)
                  walk_at "w"
                  refine U.ifDs (fun e => absurd e n3) (fun _ => ?_)
                  walk_at "w"
                  refine ⟨hd, xr, _, rfl, hyj, ?_⟩
                  walk_at "w"
                  refine ⟨_, _, _, _, _, _, _, _, _, rfl, gDj, by rw [setAll_len]; exact hdl, sbj, fun m t d h1 h2 h3 => ?_⟩
                  rw [hnum1] at h3
                  by_cases hm : m ∈ k1.nums (i + 1)
                  · rw [setAll_in _ _ _ _ (hkm m hm) hm] at h2
                    rw [← Option.some.inj h2, hroot m hm t h1]
                    exact hdsj i _ _ hpre (List.getElem?_eq_getElem hidl) (.inr (by rw [hnum]; exact List.mem_cons_self ..))
                  · rw [setAll_out _ _ _ hm] at h2
                    refine hold m t d h1 h2 (h3.imp id fun h4 => ?_)
                    rcases List.mem_append.mp h4 with h4 | h4
                    · exact absurd h4 hm
                    · exact h4
      · rintro σ Hj ⟨ds, o3, o4, o5, o6, o7, o8, o9, o10, rfl, gD, hdl, sb, hds⟩
        walk_at "w"
        refine k Hj D ds (U.Same.but s3 sb nD) gD hdl (fun m t d h1 h2 => hds m t d h1 h2 (Or.inl ?_))
        have := (List.getElem?_eq_some_iff.mp h1).1
        rw [f.pre_len] at this
        omega
end
/-- the mark of a part -/
def MkD (H : Hp) (t : PV × List Str) (v : V) : Prop := (∃ z, t.1 = .tup [.str "name", .str z] ∧ z ∈ t.2 ∧ ∃ b i j, v = .ref b ∧ H b = some (.tup [.int i, .int j])) ∨ ((∀ z, t.1 = .tup [.str "name", .str z] → z ∉ t.2) ∧ v = .non)
theorem MkD.no {H H' : Hp} (k : ∀ c o, H c = some o → (∀ l, o ≠ .lst l) → H' c = some o) {t : PV × List Str} {v : V} (h : MkD H t v) : MkD H' t v := by
  rcases h with ⟨z, e, m, b, i, j, e2, g⟩ | h
  · exact .inl ⟨z, e, m, b, i, j, e2, k _ _ g nofun⟩
  · exact .inr h
/-- a name has one item, a text -/
theorem Nd.isName {hd : Str} {xr ys : List PV} {o : Option Str} (h : Nd (.tup (.str hd :: xr)) o ys) : (hd = "name" ∧ ∃ z, xr = [.str z]) ∨ hd ≠ "name" := by
  cases h with
  | name z => exact .inl ⟨rfl, z, rfl⟩
  | fn z b => exact .inr (by decide +kernel)
  | number n u => exact .inr (by decide +kernel)
  | fail z => exact .inr (by decide +kernel)
  | call a b => exact .inr (by decide +kernel)
  | tag t c => exact .inr (by decide +kernel)
  | record h l => exact .inr (by decide +kernel)
section
variable {P : Program} {w : World} {K : PySem.W.Frag} {mg : Str → Option Value} {base : Heap} {A : Ad}
def spMarks (K : PySem.W.Frag) : Sp := fun vs H Q _ => ∃ (q l : Addr) (us rs : List V) (f : Fo), vs = [.ref q, .ref l] ∧ H q = some (.lst us) ∧ IsAll K H (f.pre.map Prod.fst) us ∧ H l = some (.lst rs) ∧ rs.length = f.size ∧
  (∀ i r, rs[i]? = some r → ∃ p, r = V.ref p ∧ H p = some (HO.lst (nV (f.kn i)))) ∧ FoOk f ∧ (∀ t ∈ f.roots, t.2 = []) ∧ (∀ t ∈ f.pre, t.2.length ≤ 1000) ∧ f.size ≤ 1000 ∧
  ∀ H' l2 ms, Same H H' → H' l2 = some (.lst ms) → ms.length = f.size → (∀ (m : Nat) (t : PV × List Str) (d : V), f.pre[m]? = some t → ms[m]? = some d → MkD H' t d) → Q (.ref l2) H'
theorem ok_marks_in (T : Top w K mg A) : FnOk P w K mg base CX0 3 A.a_marks_in A.fd_marks_in ["steps", "inner"] (spMarks K) := by
  refine T.F_marks_in.ok sc_marks_in (fun vs H Q E h => ?_) (fun cdv A' outer s H vs Q E hr h => ?_)
  · obtain ⟨q, l, _, _, _, rfl, _⟩ := h
    rfl
  · obtain ⟨q, l, us, rs, f, rfl, hq, ha, hl, hrl, hrs, hf, hro, hwd, hsz, k⟩ := h
    refine ⟨_, (pss_cons (ps_set (i := 2) sc_marks_in.nd rfl (Or.inl rfl) (pe_call (ok_scopes_in T) (hr.mono (by decide)) rfl T.m_scopes_in T.F_scopes_in.kp T.b_scopes_in .nil pass0 (pa_cons (pv 0) (pa_cons (pv 1) pa_nil))))
    (pss_one (ps_ret (pe_lc (own := [("part", 3), ("scope", 4)]) rfl sc_marks_in.nd (RZ.pi_zipA (by rfl) T.n_zip (pa_cons (pv 0) (pa_cons (pv 2) pa_nil))) (blkOk_by (own := [("part", 3), ("scope", 4)]) (N := nm_marks_in) (sc := defScope s_marks_in) (by decide +kernel)) (fun _ _ _ _ _ => (pg_tupK (K := K) (n := 2) rfl rfl (pgs_cons (pg_name (i := 3) sc_marks_in.nd rfl (Or.inl rfl)) (pgs_cons (pg_name (i := 4) sc_marks_in.nd rfl (Or.inl rfl)) pgs_nil)))) (fun _ _ _ _ _ => pts_nil) (fun _ _ _ _ _ => (pe_ifExp (pt_cmpR (U.uEq (K := K) rfl hr.units) (pe_ix (U.uIx (K := K) rfl) (pv 3) pe_int (fun _ _ => rfl)) pe_str (nomark _)) (pe_dget1 (Nat.lt_of_le_of_lt (Nat.add_le_add_left (m := 64) (n := 1) (by decide) _) hr.units) (pv 4) (pe_ix (U.uIx (K := K) rfl) (pv 3) pe_int (fun _ _ => rfl)) ⟨rfl, rfl, rfl, rfl⟩) pe_non)))))), ?_⟩
    have hul : us.length = f.size := by rw [← ha.len, List.length_map, Fo.pre_len]
    walk_at "w"
    refine ⟨q, l, us, rs, f, rfl, hq, ha, hl, hrl, hrs, hf, hro, hwd, hsz, fun H1 l2 ds s1 g1 hdl hds => ?_⟩
    walk_at "w"
    refine ⟨q, l2, us, ds, rfl, .inl ⟨SqL.of (s1 _ _ hq), SqL.of g1, fun D nD => ?_⟩⟩
    have s1D : Same H1 (upd H1 D (.lst [])) := same_new nD
    refine lc_it (walk_zip (n := f.size) (xs := us) (ys := ds) (by omega)) (fun i Hj => ∃ ms, Hj D = some (.lst ms) ∧ ms.length = i ∧ Same H1 Hj ∧ ∀ (m : Nat) (t : PV × List Str) (d : V), f.pre[m]? = some t → ms[m]? = some d → MkD Hj t d) ⟨[], upd_same, rfl, s1D, fun m t d _ e => by cases e⟩ (fun i Hj _ st => ?_) ?_ ?_
    · obtain ⟨_, _, _, sj, _⟩ := st
      exact ⟨SqL.of (sj _ _ (s1 _ _ hq)), SqL.of (sj _ _ g1)⟩
    · rintro i x Hj Hj' hi ⟨ms, gD, hml, sj, hms⟩ ⟨T1, x1, y1, rfl, nT, rfl, ex, ey⟩
      generalize hX : upd Hj T1 _ = H4
      obtain ⟨s4, g4⟩ := U.newF nT hX
      clear hX
      have nTH : H T1 = none := (s1.trans sj).free nT
      have s0j := s1.trans sj
      have s04 : Same H H4 := s0j.trans s4
      have gD4 := s4 _ _ gD
      have hin : i < f.size := hi
      obtain ⟨x2, s2, w2, k2, r2, hat, hpre, hat1⟩ := f.at_node hin
      have hsc := hds i _ y1 hpre ey
      have hsc4 : ScD H4 y1 s2 := hsc.no fun c o e _ => s4 _ _ (sj _ _ e)
      obtain ⟨y, hy2, hyv⟩ := ha.nth ex
      rw [List.getElem?_map, hpre] at hy2
      have ey2 : x2 = y := Option.some.inj hy2
      subst ey2
      have hok := hf.at i
      rw [hat] at hok
      have hnd := hok.1
      obtain ⟨hd, xr, ex2, _, _⟩ := hnd.head (A := A)
      have hy4 := hyv.keep s04
      subst ex2
      have fin : ∀ d : V, MkD H4 (PV.tup (PV.str hd :: xr), s2) d → ∃ acc, H4 D = some (.lst acc) ∧ acc.length < sizeLine ∧ ∃ ms, upd H4 D (.lst (acc ++ [d])) D = some (.lst ms) ∧ ms.length = i + 1 ∧ Same H1 (upd H4 D (.lst (acc ++ [d]))) ∧
          ∀ (m : Nat) (t : PV × List Str) (v : V), f.pre[m]? = some t → ms[m]? = some v → MkD (upd H4 D (.lst (acc ++ [d]))) t v := fun d hdk => by
        have hno : ∀ {t : PV × List Str} {v : V}, MkD H4 t v → MkD (upd H4 D (.lst (ms ++ [d]))) t v := fun h9 => h9.no fun c o e n => by
          rw [upd_ne (fun z => by rw [z, gD4] at e; exact n _ (Option.some.inj e).symm)]
          exact e
        refine ⟨ms, gD4, U.szl (by omega), ms ++ [d], upd_same, by rw [List.length_append, hml] <;> rfl, fun c o e => ?_, fun m t v h1 h2 => hno ?_⟩
        · rw [upd_ne (fun z => by rw [z, nD] at e; cases e)]
          exact s4 _ _ (sj _ _ e)
        · by_cases hm : m < ms.length
          · rw [List.getElem?_append_left hm] at h2
            exact (hms m t v h1 h2).no fun c o e _ => s4 c o e
          · rw [List.getElem?_append_right (Nat.le_of_not_lt hm)] at h2
            have hm2 : m - ms.length = 0 := by
              have := (List.getElem?_eq_some_iff.mp h2).1
              rw [List.length_singleton] at this
              omega
            rw [hm2] at h2
            have hm3 : m = i := by omega
            rw [hm3, hpre] at h1
            rw [← Option.some.inj h1, ← Option.some.inj h2]
            exact hdk
      refine ⟨T1, _, rfl, SqT.of g4, rfl, ?_⟩
      walk_at "w"
      refine ⟨rfl, ?_⟩
      walk_at "w"
      have hy40 := hy4
      cases hy4 with
      | @tup p _ vs tp hax =>
        cases hax with
        | cons h0 hax =>
          cases h0
          refine Or.inr (Or.inl ⟨_, _, _, _, rfl, rfl, tp.1, U.atN 0 rfl rfl, ?_⟩)
          walk_at "w"
          rcases hnd.isName with ⟨rfl, z, rfl⟩ | hne
          · refine U.ifDs (fun _ => ?_) (fun e => absurd rfl e)
            obtain ⟨a0, kvs, ea, ga, hkl, hk1, hk2⟩ := hsc4
            cases hax with
            | cons h1' hax' =>
              cases h1'
              subst ea
              walk_at "w"
              refine ⟨.inl ⟨kvs, .inl ga⟩, ?_⟩
              walk_at "w"
              refine Or.inr (Or.inl ⟨_, _, _, _, rfl, rfl, tp.1, U.atN 1 rfl rfl, ?_⟩)
              refine ⟨valV kvs (.inr z), DGet.k (k := .inr z) ga, ?_⟩
              refine fin _ ?_
              have hz := hk1 z
              cases hv : valV kvs (.inr z) with
              | none =>
                rw [hv] at hz
                refine .inr ⟨fun z2 e2 m2 => ?_, rfl⟩
                cases e2
                exact absurd (hz.trans (decide_eq_true m2)) (by decide)
              | some u =>
                rw [hv] at hz
                exact .inl ⟨z, rfl, of_decide_eq_true hz.symm, hk2 z u hv⟩
          · refine U.ifDs (fun e => absurd e hne) (fun _ => ?_)
            walk_at "w"
            refine fin _ (.inr ⟨fun z2 e2 _ => ?_, rfl⟩)
            cases e2
            exact hne rfl
    · rintro Hj ⟨ms, gD, hml, sj, hms⟩
      walk_at "w"
      exact k Hj D ms (s1.trans sj) gD hml hms
def spBM (K : PySem.W.Frag) (R : Hp → PV × List Str → V → Prop) : Sp := fun vs H Q _ => ∃ (x : PV) (v : V) (o : Option Str) (k : Fo), vs = [v] ∧ Is K H x v ∧ FoOk (.node x [] o k .nil) ∧ (∀ t ∈ (Fo.node x [] o k .nil).pre, t.2.length ≤ 1000) ∧ (Fo.node x [] o k .nil).size ≤ 1000 ∧
  ∀ H' l2 ms, Same H H' → H' l2 = some (.lst ms) → ms.length = (Fo.node x [] o k .nil).size → (∀ (m : Nat) (t : PV × List Str) (d : V), (Fo.node x [] o k .nil).pre[m]? = some t → ms[m]? = some d → R H' t d) → Q (.ref l2) H'
theorem ok_binder_marks (T : Top w K mg A) : FnOk P w K mg base CX0 4 A.a_binder_marks A.fd_binder_marks ["tree"] (spBM K MkD) := by
  refine T.F_binder_marks.ok sc_binder_marks (fun vs H Q E h => ?_) (fun cdv A' outer s H vs Q E hr h => ?_)
  · obtain ⟨_, _, _, _, rfl, _⟩ := h
    rfl
  · obtain ⟨x, v, o, k0, rfl, hx, hf, hwd, hsz, k⟩ := h
    refine ⟨_, (pss_cons (ps_set (i := 1) sc_binder_marks.nd rfl (Or.inl rfl) (pe_call (ok_parts_of T) (hr.mono (by decide)) rfl T.m_parts_of T.F_parts_of.kp T.b_parts_of .nil pass0 (pa_cons (pv 0) pa_nil)))
    (pss_one (ps_ret (pe_call (ok_marks_in T) (hr.mono (by decide)) rfl T.m_marks_in T.F_marks_in.kp T.b_marks_in .nil pass0 (pa_cons (pv 1) (pa_cons (pe_call (ok_inner_numbers T) (hr.mono (by decide)) rfl T.m_inner_numbers T.F_inner_numbers.kp T.b_inner_numbers .nil pass0 (pa_cons (pv 1) pa_nil)) pa_nil)))))), ?_⟩
    walk_at "w"
    refine ⟨x, _, [], o, k0, rfl, hx, hf, hsz, fun H1 q us s1 g1 hu => ?_⟩
    walk_at "w"
    refine ⟨q, us, _, rfl, g1, hu, hf, hsz, fun H2 l rs s2 g2 hrl hrs => ?_⟩
    walk_at "w"
    refine ⟨q, l, us, rs, _, rfl, s2 _ _ g1, IsAll.keep s2 hu, g2, hrl, hrs, hf, fun t ht => ?_, hwd, hsz, fun H3 l2 ms s3 g3 hml hms => ?_⟩
    · rw [List.mem_singleton.mp ht]
    · exact k H3 l2 ms ((s1.trans s2).trans s3) g3 hml hms
/-- the number of a part's binder, or None -/
def BnD (H : Hp) (t : PV × List Str) (v : V) : Prop := (∃ z, t.1 = .tup [.str "name", .str z] ∧ z ∈ t.2 ∧ ∃ i, v = .int i) ∨ ((∀ z, t.1 = .tup [.str "name", .str z] → z ∉ t.2) ∧ v = .non)
theorem ok_binder_numbers (T : Top w K mg A) : FnOk P w K mg base CX0 5 A.a_binder_numbers A.fd_binder_numbers ["tree"] (spBM K BnD) := by
  refine T.F_binder_numbers.ok sc_binder_numbers (fun vs H Q E h => ?_) (fun cdv A' outer s H vs Q E hr h => ?_)
  · obtain ⟨_, _, _, _, rfl, _⟩ := h
    rfl
  · obtain ⟨x, v, o, k0, rfl, hx, hf, hwd, hsz, k⟩ := h
    refine ⟨_, (pss_one (ps_ret (pe_lc (own := [("mark", 1)]) rfl sc_binder_numbers.nd (pi_list (pe_call (ok_binder_marks T) (hr.mono (by decide)) rfl T.m_binder_marks T.F_binder_marks.kp T.b_binder_marks .nil pass0 (pa_cons (pv 0) pa_nil))) (blkOk_by (own := [("mark", 1)]) (N := nm_binder_numbers) (sc := defScope s_binder_numbers) (by decide +kernel)) (fun _ _ _ _ _ => (pg_name (i := 1) sc_binder_numbers.nd rfl (Or.inl rfl))) (fun _ _ _ _ _ => pts_nil) (fun _ _ _ _ _ => (pe_ifExp (pt_cmpR op_isN (pv 1) pe_non (nomark _)) pe_non (pe_ix (U.uIx (K := K) rfl) (pv 1) pe_int (fun _ _ => rfl))))))), ?_⟩
    walk_at "w"
    refine ⟨x, _, o, k0, rfl, hx, hf, hwd, hsz, fun H1 l ms s1 g1 hml hms => ?_⟩
    walk_at "w"
    refine ⟨⟨_, SqL.of g1⟩, fun D nD => ?_⟩
    refine lc_list (xs := ms) (fun i Hj => ∃ ns, Hj D = some (.lst ns) ∧ ns.length = i ∧ Same H1 Hj ∧ ∀ (m : Nat) (t : PV × List Str) (d : V), (Fo.node x [] o k0 .nil).pre[m]? = some t → ns[m]? = some d → BnD Hj t d) ⟨[], upd_same, rfl, same_new nD, fun m t d _ e => by cases e⟩ (fun i Hj _ st => ?_) ?_ ?_
    · obtain ⟨_, _, _, sj, _⟩ := st
      exact SqL.of (sj _ _ g1)
    · rintro i y Hj hy ⟨ns, gD, hnl, sj, hns⟩
      have hin := (List.getElem?_eq_some_iff.mp hy).1
      have hinf : i < (Fo.node x [] o k0 .nil).pre.length := by rw [Fo.pre_len, ← hml]; exact hin
      have hmk := hms i _ y (List.getElem?_eq_getElem hinf) hy
      have fin : ∀ d : V, BnD Hj ((Fo.node x [] o k0 .nil).pre[i]) d → ∃ acc, Hj D = some (.lst acc) ∧ acc.length < sizeLine ∧ ∃ ns, upd Hj D (.lst (acc ++ [d])) D = some (.lst ns) ∧ ns.length = i + 1 ∧ Same H1 (upd Hj D (.lst (acc ++ [d]))) ∧
          ∀ (m : Nat) (t : PV × List Str) (v : V), (Fo.node x [] o k0 .nil).pre[m]? = some t → ns[m]? = some v → BnD (upd Hj D (.lst (acc ++ [d]))) t v := fun d hdk => by
        refine ⟨ns, gD, U.szl (by omega), ns ++ [d], upd_same, by rw [List.length_append, hnl] <;> rfl, fun c o e => ?_, fun m t v h1 h2 => ?_⟩
        · rw [upd_ne (fun z => by rw [z, nD] at e; cases e)]
          exact sj _ _ e
        · by_cases hm : m < ns.length
          · rw [List.getElem?_append_left hm] at h2
            exact hns m t v h1 h2
          · rw [List.getElem?_append_right (Nat.le_of_not_lt hm)] at h2
            have hm2 : m - ns.length = 0 := by
              have := (List.getElem?_eq_some_iff.mp h2).1
              rw [List.length_singleton] at this
              omega
            rw [hm2] at h2
            have hm3 : m = i := by omega
            rw [hm3, List.getElem?_eq_getElem hinf] at h1
            rw [← Option.some.inj h1, ← Option.some.inj h2]
            exact hdk
      walk_at "w"
      refine ⟨rfl, ?_⟩
      walk_at "w"
      rcases hmk with ⟨z, e1, m1, b, i1, j1, rfl, gb⟩ | ⟨hno, rfl⟩
      · refine U.ifF nofun ?_
        walk_at "w"
        refine Or.inr (Or.inl ⟨_, _, _, _, rfl, rfl, SqT.of (sj _ _ gb), U.atN 0 rfl rfl, ?_⟩)
        exact fin _ (.inl ⟨z, e1, m1, i1, rfl⟩)
      · refine U.ifT rfl ?_
        walk_at "w"
        exact fin _ (.inr ⟨hno, rfl⟩)
    · rintro Hj ⟨ns, gD, hnl, sj, hns⟩
      walk_at "w"
      exact k Hj D ns (s1.trans sj) gD (hnl.trans hml) hns
end
/-- whether a part is bound, if it is a name -/
def bndB (t : PV × List Str) : Bool := match t.1 with
  | .tup [.str h, .str z] => if h = "name" then decide (z ∈ t.2) else true
  | _ => true
/-- is a value a value tree without free names -/
inductive VtD : PV → Bool → Prop
  | noTree {x : PV} (h : TrD x false) : VtD x false
  | noVal {x : PV} (h : TrD x true) (s : VsD x false) : VtD x false
  | val {x : PV} (h : TrD x true) (s : VsD x true) {o : Option Str} {k : Fo} (f : FoOk (.node x [] o k .nil)) (w : ∀ t ∈ (Fo.node x [] o k .nil).pre, t.2.length ≤ 1000) (z : (Fo.node x [] o k .nil).size ≤ 1000) : VtD x ((Fo.node x [] o k .nil).pre.all bndB)
section
variable {P : Program} {w : World} {K : PySem.W.Frag} {mg : Str → Option Value} {base : Heap} {A : Ad}
theorem ok_is_value_tree (T : Top w K mg A) : FnOk P w K mg base CX0 14 A.a_is_value_tree A.fd_is_value_tree ["value"] (fun vs H Q _ => ∃ x v b, vs = [v] ∧ Is K H x v ∧ VtD x b ∧ x.size ≤ 10000 ∧ ∀ H', Same H H' → Q (.bl b) H') := by
  refine T.F_is_value_tree.ok sc_is_value_tree (fun vs H Q E h => ?_) (fun cdv A' outer s H vs Q E hr h => ?_)
  · obtain ⟨x, v, b, rfl, _⟩ := h
    rfl
  · obtain ⟨x, v, b, rfl, hx, hd, hsz, k⟩ := h
    refine ⟨_, (pss_cons (ps_if (PW.pt (pw_or (pt_not (pt_val (pe_call (ok_is_tree T) (hr.mono (by decide)) rfl T.m_is_tree T.F_is_tree.kp T.b_is_tree .nil pass0 (pa_cons (pv 0) pa_nil)))) (pw_or1 (pt_not (pt_val (pe_call (ok_is_value_shape T) (hr.mono (by decide)) rfl T.m_is_value_shape T.F_is_value_shape.kp T.b_is_value_shape .nil pass0 (pa_cons (pv 0) pa_nil))))))) (pss_one (ps_ret pe_bl)) pss_nil)
    (pss_cons (ps_for PassesOwn.never rfl (RZ.pi_zipA (by rfl) T.n_zip (pa_cons (pe_call (ok_parts_of T) (hr.mono (by decide)) rfl T.m_parts_of T.F_parts_of.kp T.b_parts_of .nil pass0 (pa_cons (pv 0) pa_nil)) (pa_cons (pe_call (ok_binder_numbers T) (hr.mono (by decide)) rfl T.m_binder_numbers T.F_binder_numbers.kp T.b_binder_numbers .nil pass0 (pa_cons (pv 0) pa_nil)) pa_nil))) (pg_tup rfl (pgs_cons (pg_name (i := 1) sc_is_value_tree.nd rfl (Or.inl rfl)) (pgs_cons (pg_name (i := 2) sc_is_value_tree.nd rfl (Or.inl rfl)) pgs_nil))) (pss_one (ps_if (PW.pt (pw_and (pt_cmpR (U.uEq (K := K) rfl hr.units) (pe_ix (U.uIx (K := K) rfl) (pv 1) pe_int (fun _ _ => rfl)) pe_str (nomark _)) (pw_and1 (pt_cmpR op_isN (pv 2) pe_non (nomark _))))) (pss_one (ps_ret pe_bl)) pss_nil)))
    (pss_one (ps_ret pe_bl)))), ?_⟩
    walk_at "w"
    cases hd with
    | noTree h =>
      refine ⟨x, v, _, rfl, hx, h, hsz, fun H1 s1 => ?_⟩
      walk_at "w"
      exact k H1 s1
    | noVal h s =>
      refine ⟨x, v, _, rfl, hx, h, hsz, fun H1 s1 => ?_⟩
      walk_at "w"
      refine ⟨x, v, _, rfl, hx.keep s1, s, hsz, fun H2 s2 => ?_⟩
      walk_at "w"
      exact k H2 (s1.trans s2)
    | @val h s o k0 hf hwd hz =>
      refine ⟨x, v, _, rfl, hx, h, hsz, fun H1 s1 => ?_⟩
      walk_at "w"
      refine ⟨x, v, _, rfl, hx.keep s1, s, hsz, fun H2 s2 => ?_⟩
      have s02 := s1.trans s2
      walk_at "w"
      refine ⟨x, _, [], o, k0, rfl, hx.keep s02, hf, hz, fun H3 q us s3 g3 hu => ?_⟩
      walk_at "w"
      have s03 := s02.trans s3
      refine ⟨x, _, o, k0, rfl, hx.keep s03, hf, hwd, hz, fun H4 l ns s4 g4 hnl hns => ?_⟩
      walk_at "w"
      have s04 := s03.trans s4
      have hul : us.length = (Fo.node x [] o k0 .nil).size := by rw [← hu.len, List.length_map, Fo.pre_len]
      refine ⟨q, l, us, ns, rfl, .inl ⟨SqL.of (s4 _ _ g3), SqL.of g4, ?_⟩⟩
      refine for_it (walk_zip (n := (Fo.node x [] o k0 .nil).size) (xs := us) (ys := ns) (by omega)) (fun i σ Hj => ∃ o1 o2 : Option V, σ = [some v, o1, o2] ∧ Same H4 Hj ∧ ((Fo.node x [] o k0 .nil).pre.take i).all bndB = true) ⟨none, none, rfl, Same.refl _, rfl⟩ (fun i σ Hj _ st => ?_) ?_ ?_
      · obtain ⟨_, _, _, sj, _⟩ := st
        exact ⟨SqL.of (sj _ _ (s4 _ _ g3)), SqL.of (sj _ _ g4)⟩
      · rintro i y σ Hj Hj' hi ⟨o1, o2, rfl, sj, hall⟩ ⟨T1, x1, y1, rfl, nT, rfl, ex, ey⟩
        generalize hX : upd Hj T1 _ = H5
        obtain ⟨s5, g5⟩ := U.newF nT hX
        clear hX
        obtain ⟨x2, s2', w2, k2, r2, hat, hpre, hat1⟩ := (Fo.node x [] o k0 .nil).at_node hi
        have hbn := hns i _ y1 hpre ey
        obtain ⟨y, hy2, hyv⟩ := hu.nth ex
        rw [List.getElem?_map, hpre] at hy2
        have ey2 : x2 = y := Option.some.inj hy2
        subst ey2
        have hok := hf.at i
        rw [hat] at hok
        have hnd := hok.1
        obtain ⟨hd, xr, ex2, _, _⟩ := hnd.head (A := A)
        have s4j := sj.trans s5
        have hyj := hyv.keep (s4.trans s4j)
        subst ex2
        have hin := (List.getElem?_eq_some_iff.mp hpre).1
        have htk : (Fo.node x [] o k0 .nil).pre.take (i + 1) = (Fo.node x [] o k0 .nil).pre.take i ++ [(PV.tup (PV.str hd :: xr), s2')] := by
          rw [List.take_succ_eq_append_getElem hin, (List.getElem?_eq_some_iff.mp hpre).2]
        have good : bndB (PV.tup (PV.str hd :: xr), s2') = true → ((Fo.node x [] o k0 .nil).pre.take (i + 1)).all bndB = true := fun e => by
          rw [htk, List.all_append, hall]
          show (true && (bndB _ && true)) = true
          rw [e] <;> rfl
        have bad : bndB (PV.tup (PV.str hd :: xr), s2') = false → ∀ H', Same H H' → Q (.bl false) H' := fun e => by
          have : (Fo.node x [] o k0 .nil).pre.all bndB = false := List.all_eq_false.mpr ⟨_, List.mem_of_getElem? hpre, by rw [e]; decide⟩
          rw [this] at k
          exact k
        refine ⟨T1, _, rfl, SqT.of g5, rfl, ?_⟩
        walk_at "w"
        cases hyj with
        | @tup p _ vs tp hax =>
          cases hax with
          | cons h0 hax =>
            cases h0
            refine Or.inr (Or.inl ⟨_, _, _, _, rfl, rfl, tp.1, U.atN 0 rfl rfl, ?_⟩)
            walk_at "w"
            rcases hnd.isName with ⟨rfl, z, rfl⟩ | hne
            · refine U.ifDs (fun _ => ?_) (fun e => absurd rfl e)
              walk_at "w"
              rcases hbn with ⟨z2, e2, m2, i2, rfl⟩ | ⟨hno, rfl⟩
              · refine U.ifF nofun ?_
                cases e2
                refine ⟨_, _, rfl, s4j, good ?_⟩
                show (if Str.ofString "name" = "name" then decide (z ∈ s2') else true) = true
                rw [if_pos rfl]
                exact decide_eq_true m2
              · refine U.ifT rfl ?_
                walk_at "w"
                refine bad ?_ H5 (s04.trans s4j)
                show (if Str.ofString "name" = "name" then decide (z ∈ s2') else true) = false
                rw [if_pos rfl]
                exact decide_eq_false (hno z rfl)
            · refine U.ifDs (fun e => absurd e hne) (fun _ => ?_)
              refine ⟨_, _, rfl, s4j, good ?_⟩
              unfold bndB
              split
              · rename_i h9 z9 e9
                cases e9
                rw [if_neg hne]
              · rfl
      · rintro σ Hj ⟨o1, o2, rfl, sj, hall⟩
        walk_at "w"
        rw [← Fo.pre_len, List.take_length] at hall
        rw [hall] at k
        exact k Hj (s04.trans sj)
end
theorem Fo.size_le : ∀ {f : Fo}, FoOk f → f.size ≤ PV.sizes (f.roots.map Prod.fst)
  | .nil, _ => Nat.le_refl _
  | .node x s w k r, h => by
    have h1 := size_le h.2.2.1
    have h2 := size_le h.2.2.2
    have h3 := h.1.pi.size
    show k.size + r.size + 1 ≤ x.size + PV.sizes (r.roots.map Prod.fst)
    omega
/-- a tree, its parts under some bound words, and whether all of its names are bound -/
def Gd (s : List Str) (x : PV) (b : Bool) : Prop := TrD x true ∧ ∃ o k, FoOk (.node x s o k .nil) ∧ (Fo.node x s o k .nil).pre.all bndB = b ∧ ∀ t ∈ (Fo.node x s o k .nil).pre, t.2.length ≤ 3
def GdL (s : List Str) (ys : List PV) (b : Bool) : Prop := TrL ys true ∧ ∃ k : Fo, FoOk k ∧ k.roots.map Prod.fst = ys ∧ (∀ t ∈ k.roots, t.2 = s) ∧ k.pre.all bndB = b ∧ ∀ t ∈ k.pre, t.2.length ≤ 3
theorem GdL.nil (s : List Str) : GdL s [] true := ⟨.nil, .nil, trivial, rfl, (fun _ h => by cases h), rfl, (fun _ h => by cases h)⟩
theorem GdL.cons {s : List Str} {x : PV} {ys : List PV} {b c : Bool} (h : Gd s x b) (t : GdL s ys c) : GdL s (x :: ys) (b && c) := by
  obtain ⟨h1, o, k, h2, h3, h4⟩ := h
  obtain ⟨t1, g, t2, t3, t4, t5, t6⟩ := t
  refine ⟨.cons h1 t1, .node x s o k g, ⟨h2.1, h2.2.1, h2.2.2.1, t2⟩, ?_, ?_, ?_, ?_⟩
  · show x :: g.roots.map Prod.fst = _
    rw [t3]
  · intro t ht
    rcases List.mem_cons.mp ht with rfl | ht
    · rfl
    · exact t4 t ht
  · have h3 : ((x, s) :: (k.pre ++ [])).all bndB = b := h3
    show ((x, s) :: (k.pre ++ g.pre)).all bndB = _
    rw [List.append_nil] at h3
    rw [← h3, ← t5, List.all_cons, List.all_cons, List.all_append, Bool.and_assoc]
  · intro t ht
    have ht : t ∈ (x, s) :: (k.pre ++ g.pre) := ht
    rcases List.mem_cons.mp ht with h | h
    · exact h4 t (List.mem_cons.mpr (.inl h))
    · rcases List.mem_append.mp h with h | h
      · exact h4 t (List.mem_cons.mpr (.inr (List.mem_append.mpr (.inl h))))
      · exact t6 t h
theorem Gd.of {s : List Str} {x : PV} {o : Option Str} {ys : List PV} {b : Bool} (hs : ShD x (some ys)) (hn : Nd x o ys) (hl : s.length ≤ 3) (g : GdL (ext s o) ys b) : Gd s x (bndB (x, s) && b) := by
  obtain ⟨t1, k, t2, t3, t4, t5, t6⟩ := g
  refine ⟨.good hs hn.pi.size t1, o, k, ⟨by rw [t3]; exact hn, t4, t2, trivial⟩, ?_, ?_⟩
  · show ((x, s) :: (k.pre ++ [])).all bndB = _
    rw [List.append_nil, List.all_cons, t5]
  · intro t ht
    have ht : t ∈ (x, s) :: (k.pre ++ []) := ht
    rw [List.append_nil] at ht
    rcases List.mem_cons.mp ht with rfl | ht
    · exact hl
    · exact t6 t ht
theorem Gd.vt {x : PV} {b : Bool} (g : Gd [] x b) (v : VsD x true) (hz : x.size ≤ 1000) : VtD x b := by
  obtain ⟨t, o, k, h1, h2, h3⟩ := g
  rw [← h2]
  have h4 := Fo.size_le h1
  exact .val t v h1 (fun t ht => Nat.le_trans (h3 t ht) (by decide)) (Nat.le_trans h4 (by show x.size + 0 ≤ 1000; omega))
theorem fit_one {x : PV} {s : Str} (n : s ≠ "tree") {b : Bool} (h : OfD s x b) : FitL [x] [s] b := by
  cases b with
  | true => exact .yes n h .nil
  | false => exact .no n h rfl
theorem fit_yes {x : PV} {s : Str} {xs : List PV} {ss : List Str} {b : Bool} (h : OfD s x true) (t : FitL xs ss b) (n : s ≠ "tree" := by decide +kernel) : FitL (x :: xs) (s :: ss) b := .yes n h t
theorem fit_no {x : PV} {s : Str} {xs : List PV} {ss : List Str} (h : OfD s x false) (l : xs.length = ss.length := by rfl) (n : s ≠ "tree" := by decide +kernel) : FitL (x :: xs) (s :: ss) false := .no n h l
theorem of_w {z : Str} (h : isW z = true) : OfD "word" (.str z) true := by
  have := OfD.word (.str z)
  rw [show onStr isW (.str z) = isW z from rfl, h] at this
  exact this
theorem of_tg {z : Str} {b : Bool} (h : isTg z = b) : OfD "tag" (.str z) b := by
  have := OfD.tag (.str z)
  rw [show onStr isTg (.str z) = isTg z from rfl, h] at this
  exact this
theorem sh_number {i u : PV} (hi : OfD "count" i true) (hu : OfD "unit" u true) : ShD (.tup [.str "number", i, u]) (some []) :=
  .yes (ss := ["count", "unit"]) (by decide +kernel) (by show 2 ≤ 10; decide) (fit_yes hi (fit_yes hu .nil)) (.number _ _)
theorem sh_name {z : Str} (h : isW z = true) : ShD (.tup [.str "name", .str z]) (some []) :=
  .yes (ss := ["word"]) (by decide +kernel) (by show 1 ≤ 10; decide) (fit_yes (of_w h) .nil) (.name _)
theorem sh_fail {z : Str} (h : isW z = true) : ShD (.tup [.str "fail", .str z]) (some []) :=
  .yes (ss := ["word"]) (by decide +kernel) (by show 1 ≤ 10; decide) (fit_yes (of_w h) .nil) (.fail _)
theorem sh_fn {z : Str} {b : PV} (h : isW z = true) : ShD (.tup [.str "fn", .str z, b]) (some [b]) :=
  .yes (ss := ["word", "tree"]) (by decide +kernel) (by show 2 ≤ 10; decide) (fit_yes (of_w h) (.tree .nil)) (.fn _ _)
theorem sh_call {a b : PV} : ShD (.tup [.str "call", a, b]) (some [a, b]) :=
  .yes (ss := ["tree", "tree"]) (by decide +kernel) (by show 2 ≤ 10; decide) (.tree (.tree .nil)) (.call _ _)
theorem sh_field {a : PV} {z : Str} (h : isW z = true) : ShD (.tup [.str "field", a, .str z]) (some [a]) :=
  .yes (ss := ["tree", "word"]) (by decide +kernel) (by show 2 ≤ 10; decide) (.tree (fit_yes (of_w h) .nil)) (.field _ _)
theorem sh_tag {z : Str} {b : PV} (h : isTg z = true) : ShD (.tup [.str "tag", .str z, b]) (some [b]) :=
  .yes (ss := ["tag", "tree"]) (by decide +kernel) (by show 2 ≤ 10; decide) (fit_yes (of_tg h) (.tree .nil)) (.tag _ _)
theorem sh_told {a : PV} : ShD (.tup [.str "told", a, numK]) (some [a]) :=
  .yes (ss := ["tree", "kind"]) (by decide +kernel) (by show 2 ≤ 10; decide) (.tree (fit_yes .kind .nil)) (.told _ _)
theorem sh_record {es ys : List PV} {ls : List Str} (h : Ents es ls) (n : ls.Nodup) (l : ls.length ≤ 10) (e : EntV es ys) (l2 : es.length ≤ 10) : ShD (.tup [.str "record", .tup es]) (some ys) :=
  .yes (ss := ["entries"]) (by decide +kernel) (by show 1 ≤ 10; decide) (fit_yes (.ent (.tup es) (.inr ⟨es, ls, rfl, h, n, l⟩)) .nil) (.record e l2)
theorem bnd3 {h : Str} {i u : PV} {s : List Str} : bndB (.tup [.str h, i, u], s) = true := by cases i <;> rfl
theorem gd_number {s : List Str} {i u : PV} (hl : s.length ≤ 3) (hi : OfD "count" i true) (hu : OfD "unit" u true) : Gd s (.tup [.str "number", i, u]) true := by
  have := Gd.of (sh_number hi hu) (.number i u) hl (.nil s)
  rw [bnd3] at this
  exact this
theorem gd_fail {s : List Str} {z : Str} (hl : s.length ≤ 3) (h : isW z = true) : Gd s (.tup [.str "fail", .str z]) true := by
  have := Gd.of (sh_fail h) (.fail _) hl (.nil s)
  rw [show bndB (PV.tup [.str "fail", .str z], s) = true from by
    show (if Str.ofString "fail" = "name" then decide (z ∈ s) else true) = true
    rw [if_neg (by decide +kernel)]] at this
  exact this
theorem gd_name {s : List Str} {z : Str} (hl : s.length ≤ 3) (h : isW z = true) : Gd s (.tup [.str "name", .str z]) (decide (z ∈ s)) := by
  have := Gd.of (sh_name h) (.name z) hl (.nil s)
  rw [show bndB (PV.tup [.str "name", .str z], s) = decide (z ∈ s) from by
    show (if Str.ofString "name" = "name" then decide (z ∈ s) else true) = _
    rw [if_pos rfl], Bool.and_true] at this
  exact this
theorem gd_fn {s : List Str} {z : Str} {e : PV} {b : Bool} (hl : s.length ≤ 3) (h : isW z = true) (g : Gd (z :: s) e b) : Gd s (.tup [.str "fn", .str z, e]) b := by
  have := Gd.of (sh_fn h) (.fn z e) hl (GdL.cons g (.nil (z :: s)))
  rw [Bool.and_true] at this
  exact this
theorem gd_call {s : List Str} {a e : PV} {b c : Bool} (hl : s.length ≤ 3) (g : Gd s a b) (g2 : Gd s e c) : Gd s (.tup [.str "call", a, e]) (b && c) := by
  have := Gd.of sh_call (.call a e) hl (GdL.cons g (GdL.cons g2 (.nil s)))
  rw [Bool.and_true, bnd3] at this
  exact this
theorem gd_tag {s : List Str} {z : Str} {e : PV} {b : Bool} (hl : s.length ≤ 3) (h : isTg z = true) (g : Gd s e b) : Gd s (.tup [.str "tag", .str z, e]) b := by
  have := Gd.of (sh_tag h) (.tag _ e) hl (GdL.cons g (.nil s))
  rw [Bool.and_true] at this
  exact this
theorem gd_record {s : List Str} {es ys : List PV} {ls : List Str} {b : Bool} (hl : s.length ≤ 3) (h : Ents es ls) (n : ls.Nodup) (l : ls.length ≤ 10) (e : EntV es ys) (l2 : es.length ≤ 10) (g : GdL s ys b) : Gd s (.tup [.str "record", .tup es]) b :=
  Gd.of (sh_record h n l e l2) (.record e l2) hl g
theorem of_num {i : Nat} : OfD "count" (.int (i : Int)) true := by
  have := OfD.count (.int (i : Int))
  rw [show countB (.int (i : Int)) = decide ((0 : Int) ≤ (i : Int)) from rfl, decide_eq_true (Int.natCast_nonneg i)] at this
  exact this
theorem mM_unit : ∀ {u : PV}, u ∈ mM → OfD "unit" u true ∧ u.size ≤ 8 := by
  intro u h
  simp only [mM, List.mem_cons, List.not_mem_nil, or_false] at h
  rcases h with rfl | rfl | rfl
  · exact ⟨.unit .non (.inl rfl), by show 1 ≤ 8; decide⟩
  · exact ⟨.unit .non (.inl rfl), by show 1 ≤ 8; decide⟩
  · exact ⟨.unit unitU (.inr (.inl rfl)), by show 4 ≤ 8; decide⟩
theorem wX : isW "x" = true := by decide +kernel
theorem bodies_gd : ∀ {e : PV}, e ∈ bodies → Gd ["x"] e true ∧ e.size ≤ 9 := by
  intro e h
  have h1 : (["x"] : List Str).length ≤ 3 := by show 1 ≤ 3; decide
  have hx : Gd ["x"] nameX true := by
    have := gd_name h1 wX
    rw [show decide ((Str.ofString "x") ∈ (["x"] : List Str)) = true from by decide +kernel] at this
    exact this
  simp only [bodies, List.mem_cons, List.not_mem_nil, or_false] at h
  rcases h with rfl | rfl | rfl | rfl
  · exact ⟨hx, by show 3 ≤ 9; decide⟩
  · exact ⟨gd_fail h1 (by decide +kernel), by show 3 ≤ 9; decide⟩
  · exact ⟨gd_number h1 (of_num (i := 1)) (.unit .non (.inl rfl)), by show 4 ≤ 9; decide⟩
  · exact ⟨gd_call h1 hx hx, by show 8 ≤ 9; decide⟩
theorem tags_tag : ∀ t ∈ tagsT, isTg t = true := by decide +kernel
theorem labs_nd2 : labsT.Nodup := by decide +kernel
theorem VE.entsL : ∀ {d : Nat} {es : List PV} {ls : List Str}, VE d es ls → (∀ l ∈ ls, l ∈ labsT) → Ents es ls
  | _, _, _, .nil, _ => .nil
  | _, _, _, .cons h t, k => .cons (k _ (List.mem_cons_self ..)) (t.entsL fun l hl => k l (List.mem_cons_of_mem _ hl))
mutual
theorem VT.good : ∀ {d : Nat} {x : PV}, VT d x → Gd [] x true ∧ VsD x true ∧ x.size ≤ 12 * 4 ^ d
  | d, _, .number (i := i) hi hu => by
    obtain ⟨h1, h2⟩ := mM_unit hu
    refine ⟨gd_number (Nat.zero_le _) of_num h1, .leaf (.inl rfl), ?_⟩
    have : 0 < 4 ^ d := Nat.pow_pos (by decide)
    show 1 + (1 + (_ + 0)) + 1 ≤ 12 * 4 ^ d
    omega
  | d, _, .fn hb => by
    obtain ⟨h1, h2⟩ := bodies_gd hb
    refine ⟨gd_fn (Nat.zero_le _) wX h1, .leaf (.inr rfl), ?_⟩
    have : 0 < 4 ^ d := Nat.pow_pos (by decide)
    show 1 + (1 + (_ + 0)) + 1 ≤ 12 * 4 ^ d
    omega
  | d + 1, _, .record (n := n) (es := es) h => by
    obtain ⟨ys, h1, h2, h3, h4, h5⟩ := h.good
    have hlen : (labsT.take n).length ≤ 3 := by
      rw [List.length_take]
      exact Nat.min_le_right _ _
    refine ⟨gd_record (Nat.zero_le _) (h.entsL fun l hl => List.mem_of_mem_take hl) (labs_nd2.sublist (List.take_sublist n labsT)) (by omega) h1 (by omega) h2, .record h1 (by omega) h3, ?_⟩
    have : 0 < 4 ^ d := Nat.pow_pos (by decide)
    have h6 : PV.sizes es ≤ 3 * (12 * 4 ^ d + 2) := Nat.le_trans h5 (Nat.mul_le_mul_right _ hlen)
    show 1 + ((PV.sizes es + 1) + 0) + 1 ≤ 12 * 4 ^ (d + 1)
    rw [Nat.pow_succ]
    omega
  | d + 1, _, .tag ht hc => by
    obtain ⟨h1, h2, h3⟩ := hc.good
    refine ⟨gd_tag (Nat.zero_le _) (tags_tag _ ht) h1, .tag h2, ?_⟩
    have : 0 < 4 ^ d := Nat.pow_pos (by decide)
    show 1 + (1 + (_ + 0)) + 1 ≤ 12 * 4 ^ (d + 1)
    rw [Nat.pow_succ]
    omega
theorem VE.good : ∀ {d : Nat} {es : List PV} {ls : List Str}, VE d es ls → ∃ ys, EntV es ys ∧ GdL [] ys true ∧ VsL ys true ∧ es.length = ls.length ∧ PV.sizes es ≤ ls.length * (12 * 4 ^ d + 2)
  | _, _, _, .nil => ⟨[], .nil, .nil _, .nil, rfl, Nat.zero_le _⟩
  | d, _, _, .cons (e := e) (es := es) (ls := ls) h t => by
    obtain ⟨g1, g2, g3⟩ := h.good
    obtain ⟨ys, h1, h2, h3, h4, h5⟩ := t.good
    refine ⟨e :: ys, .cons h1, GdL.cons g1 h2, VsL.cons g2 h3, congrArg (· + 1) h4, ?_⟩
    show (1 + (e.size + 0)) + 1 + PV.sizes es ≤ (ls.length + 1) * (12 * 4 ^ d + 2)
    rw [Nat.add_mul]
    omega
end
/-- no value tree: no tree, no value, or one with a free name -/
def OC (x : PV) : Prop := TrD x false ∨ (TrD x true ∧ VsD x false) ∨ (Gd [] x false ∧ VsD x true)
theorem OC.vt {x : PV} (h : OC x) (hz : x.size ≤ 1000) : VtD x false := by
  rcases h with h | ⟨h, v⟩ | ⟨h, v⟩
  · exact .noTree h
  · exact .noVal h v
  · exact h.vt v hz
theorem OC.tag {x : PV} (h : OC x) : OC (.tup [.str "tag", .str "A", x]) := by
  have hA : isTg "A" = true := by decide +kernel
  rcases h with h | ⟨h, v⟩ | ⟨h, v⟩
  · exact .inl (.good (sh_tag hA) (PiD.tag _ _).size (.cons h .nil))
  · exact .inr (.inl ⟨.good (sh_tag hA) (PiD.tag _ _).size (.cons h .nil), .tag v⟩)
  · exact .inr (.inr ⟨gd_tag (Nat.zero_le _) hA h, .tag v⟩)
theorem OC.record {t x : PV} (g : Gd [] t true) (w : VsD t true) (h : OC x) : OC (.tup [.str "record", .tup [.tup [.str "a", t], .tup [.str "b", x]]]) := by
  have he : Ents [.tup [.str "a", t], .tup [.str "b", x]] ["a", "b"] := .cons (by decide +kernel) (.cons (by decide +kernel) .nil)
  have hn : (["a", "b"] : List Str).Nodup := by decide +kernel
  have hl : (["a", "b"] : List Str).length ≤ 10 := by show 2 ≤ 10; decide
  have hl2 : [PV.tup [.str "a", t], PV.tup [.str "b", x]].length ≤ 10 := by show 2 ≤ 10; decide
  have hv : EntV [.tup [.str "a", t], .tup [.str "b", x]] [t, x] := .cons (.cons .nil)
  rcases h with h | ⟨h, v⟩ | ⟨h, v⟩
  · exact .inl (.good (sh_record he hn hl hv hl2) (PiD.record hv hl2).size (.cons g.1 (.cons h .nil)))
  · exact .inr (.inl ⟨.good (sh_record he hn hl hv hl2) (PiD.record hv hl2).size (.cons g.1 (.cons h .nil)), .record hv hl2 (.cons w (.cons v .nil))⟩)
  · exact .inr (.inr ⟨gd_record (Nat.zero_le _) he hn hl hv hl2 (GdL.cons g (GdL.cons h (.nil []))), .record hv hl2 (.cons w (.cons v .nil))⟩)
theorem no_of {h : Str} {ss : List Str} {xs : List PV} (m : (h, ss) ∈ shTab) (l : xs.length ≤ 10) (f : FitL xs ss false) : OC (.tup (.str h :: xs)) := .inl (.bad (.no m l (.inr f)))
theorem no_tup {x : PV} (h : x.isTup = false) : OC x := .inl (.bad (.noTup h))
theorem of_wno {x : PV} (h : x.isStr = false) : OfD "word" x false := by
  have := OfD.word x
  cases x with
  | str z => cases h
  | non => exact this
  | bl b => exact this
  | int i => exact this
  | tup xs => exact this
  | oth => exact this
theorem of_tno {x : PV} (h : x.isStr = false) : OfD "tag" x false := by
  have := OfD.tag x
  cases x with
  | str z => cases h
  | non => exact this
  | bl b => exact this
  | int i => exact this
  | tup xs => exact this
  | oth => exact this
theorem of_cno {x : PV} (h : countB x = false) : OfD "count" x false := by
  have := OfD.count x
  rw [h] at this
  exact this
theorem tr_rec0 : Gd [] (.tup [.str "record", .tup []]) true := gd_record (ls := []) (Nat.zero_le _) .nil .nil (Nat.zero_le _) .nil (Nat.zero_le _) (.nil [])
theorem gd_one : Gd [] (.tup [.str "number", .int 1, .non]) true := gd_number (Nat.zero_le _) (of_num (i := 1)) (.unit .non (.inl rfl))
theorem oddM_oc : ∀ {x : PV}, x ∈ oddM → OC x ∧ x.size ≤ 20 := by
  intro x h
  have hnil : ([] : List Str).length ≤ 3 := Nat.zero_le _
  have wx : isW "x" = true := wX
  have wy : isW "y" = true := by decide +kernel
  have wa : isW "a" = true := by decide +kernel
  have wgap : isW "gap" = true := by decide +kernel
  have l1 : ∀ a : PV, [a].length ≤ 10 := fun a => by show 1 ≤ 10; decide
  have l2 : ∀ a b : PV, [a, b].length ≤ 10 := fun a b => by show 2 ≤ 10; decide
  simp only [oddM, List.mem_cons, List.not_mem_nil, or_false] at h
  rcases h with rfl | rfl | rfl | rfl | rfl | rfl | rfl | rfl | rfl | rfl | rfl | rfl | rfl | rfl | rfl | rfl | rfl | rfl | rfl | rfl | rfl | rfl | rfl | rfl
  · exact ⟨.inr (.inl ⟨(gd_name hnil wx).1, .other (by decide +kernel) (by decide +kernel)⟩), by show 3 ≤ 20; decide⟩
  · exact ⟨.inr (.inl ⟨(gd_fail hnil wgap).1, .other (by decide +kernel) (by decide +kernel)⟩), by show 3 ≤ 20; decide⟩
  · refine ⟨.inr (.inr ⟨gd_fn hnil wx ?_, .leaf (.inr rfl)⟩), by show 6 ≤ 20; decide⟩
    have := gd_name (s := ["x"]) (by show 1 ≤ 3; decide) wy
    rw [show decide ((Str.ofString "y") ∈ (["x"] : List Str)) = false from by decide +kernel] at this
    exact this
  · exact ⟨.inr (.inl ⟨.good (sh_field wa) (PiD.field _ _).size (.cons tr_rec0.1 .nil), .other (by decide +kernel) (by decide +kernel)⟩), by show 6 ≤ 20; decide⟩
  · refine ⟨.inr (.inl ⟨(gd_call hnil (gd_fn hnil wx (gd_name (by show 1 ≤ 3; decide) wx)) gd_one).1, .other (by decide +kernel) (by decide +kernel)⟩), by show 12 ≤ 20; decide⟩
  · exact ⟨no_of (ss := ["count", "unit"]) (by decide +kernel) (l2 _ _) (fit_no (of_cno rfl)), by show 4 ≤ 20; decide⟩
  · exact ⟨no_of (ss := ["tag", "tree"]) (by decide +kernel) (l2 _ _) (fit_no (of_tg (by decide +kernel))), by show 6 ≤ 20; decide⟩
  · exact ⟨no_of (ss := ["count", "unit"]) (by decide +kernel) (l2 _ _) (fit_no (of_cno rfl)), by show 4 ≤ 20; decide⟩
  · exact ⟨no_tup rfl, by show 1 ≤ 20; decide⟩
  · exact ⟨no_tup rfl, by show 1 ≤ 20; decide⟩
  · exact ⟨no_tup rfl, by show 1 ≤ 20; decide⟩
  · exact ⟨no_of (ss := ["entries"]) (by decide +kernel) (l1 _) (fit_no (.ent .oth (.inl rfl))), by show 3 ≤ 20; decide⟩
  · exact ⟨.inr (.inl ⟨.good sh_told (PiD.told _ _).size (.cons gd_one.1 .nil), .other (by decide +kernel) (by decide +kernel)⟩), by show 9 ≤ 20; decide⟩
  · exact ⟨no_tup rfl, by show 1 ≤ 20; decide⟩
  · exact ⟨no_tup rfl, by show 1 ≤ 20; decide⟩
  · exact ⟨no_tup rfl, by show 1 ≤ 20; decide⟩
  · exact ⟨no_of (ss := ["count", "unit"]) (by decide +kernel) (l2 _ _) (fit_no (of_cno rfl)), by show 4 ≤ 20; decide⟩
  · exact ⟨no_of (ss := ["count", "unit"]) (by decide +kernel) (l2 _ _) (fit_yes (of_num (i := 1)) (fit_no (.unit .oth (.inr (.inr rfl))))), by show 4 ≤ 20; decide⟩
  · exact ⟨no_of (ss := ["word", "tree"]) (by decide +kernel) (l2 _ _) (fit_no (of_wno rfl)), by show 7 ≤ 20; decide⟩
  · exact ⟨no_of (ss := ["word", "tree"]) (by decide +kernel) (l2 _ _) (fit_no (of_wno rfl)), by show 7 ≤ 20; decide⟩
  · exact ⟨no_of (ss := ["tag", "tree"]) (by decide +kernel) (l2 _ _) (fit_no (of_tno rfl)), by show 8 ≤ 20; decide⟩
  · exact ⟨no_of (ss := ["tag", "tree"]) (by decide +kernel) (l2 _ _) (fit_no (of_tno rfl)), by show 7 ≤ 20; decide⟩
  · exact ⟨no_of (ss := ["entries"]) (by decide +kernel) (l1 _) (fit_no (.ent .oth (.inl rfl))), by show 3 ≤ 20; decide⟩
  · exact ⟨no_tup rfl, by show 1 ≤ 20; decide⟩
theorem OD.oc : ∀ {d : Nat} {x : PV}, OD d x → OC x ∧ x.size ≤ 100 * (d + 1)
  | d, _, .leaf h => by
    obtain ⟨h1, h2⟩ := oddM_oc h
    exact ⟨h1, by omega⟩
  | d + 1, _, .tag (x := x) h => by
    obtain ⟨h1, h2⟩ := h.oc
    refine ⟨h1.tag, ?_⟩
    show 1 + (1 + (x.size + 0)) + 1 ≤ 100 * (d + 1 + 1)
    omega
  | d + 1, _, .record (t := t) (x := x) ht h => by
    obtain ⟨h1, h2⟩ := h.oc
    obtain ⟨g1, g2, g3⟩ := ht.good
    refine ⟨.record g1 g2 h1, ?_⟩
    show 1 + (((1 + (t.size + 0) + 1) + ((1 + (x.size + 0) + 1) + 0) + 1) + 0) + 1 ≤ 100 * (d + 1 + 1)
    have g3 : t.size ≤ 48 := g3
    omega
theorem VT.vt {d : Nat} {x : PV} (h : VT d x) (hd : d ≤ 3) : VtD x true ∧ x.size ≤ 10000 := by
  obtain ⟨g1, g2, g3⟩ := h.good
  have : 4 ^ d ≤ 4 ^ 3 := Nat.pow_le_pow_right (by decide) hd
  have h4 : (4 : Nat) ^ 3 = 64 := by decide
  exact ⟨g1.vt g2 (by omega), by omega⟩
theorem OD.vt {d : Nat} {x : PV} (h : OD d x) (hd : d ≤ 2) : VtD x false ∧ x.size ≤ 10000 := by
  obtain ⟨h1, h2⟩ := h.oc
  exact ⟨h1.vt (by omega), by omega⟩
def lastV : PV := .tup [.str "fn", .str "x", .tup [.str "fn", .str "y", .tup [.str "name", .str "x"]]]
theorem last_vt : VtD lastV true ∧ lastV.size ≤ 10000 := by
  have wy : isW "y" = true := by decide +kernel
  have h := gd_name (s := ["y", "x"]) (by show 2 ≤ 3; decide) wX
  rw [show decide ((Str.ofString "x") ∈ (["y", "x"] : List Str)) = true from by decide +kernel] at h
  exact ⟨(gd_fn (Nat.zero_le _) wX (gd_fn (by show 1 ≤ 3; decide) wy h)).vt (.leaf (.inr rfl)) (by show 9 ≤ 1000; decide), by show 9 ≤ 10000; decide⟩
theorem empty_vt : VtD (.tup []) false ∧ (PV.tup []).size ≤ 10000 := ⟨.noTree (.bad .empty), by show 1 ≤ 10000; decide⟩
section
variable {P : Program} {w : World} {K : PySem.W.Frag} {mg : Str → Option Value} {base : Heap} {A : Ad}
theorem sqL_same {H H1 : Hp} {q : Addr} {xs : List V} (s : Same H H1) (h : SqL K H q xs) : SqL K H1 q xs := by
  rcases h with (h | ⟨o, h⟩) | h
  · exact .inl (.inl (s _ _ h))
  · exact .inl (.inr ⟨o, s _ _ h⟩)
  · exact .inr h
def spLaw (K : PySem.W.Frag) : Sp := fun vs H Q _ => ∃ (a : Addr) (ns : List Int), vs = [.ref a] ∧ SqL K H a (ns.map V.int) ∧ ns.length ≤ 63 ∧ ∀ H', Q (.bl true) H'
set_option maxHeartbeats 1000000 in
theorem ok_law (T : Top w K mg A) : FnOk P w K mg base CX0 15 A.a_law A.fd_law ["script"] (spLaw K) := by
  refine T.F_law.ok sc_law (fun vs H Q E h => ?_) (fun cdv A' outer s H vs Q E hr h => ?_)
  · obtain ⟨a, ns, rfl, _⟩ := h
    rfl
  · obtain ⟨a, ns, rfl, hS, hl, k⟩ := h
    refine ⟨_, (pss_cons (ps_for PassesOwn.never rfl (pi_list (pe_op U.uAdd (pe_lst (pa_cons (pe_call (ok_law_at T) (hr.mono (by decide)) rfl T.m_law_at T.F_law_at.kp T.b_law_at .nil pass0 (pa_cons (pv 0) (pa_cons pe_int pa_nil))) pa_nil)) (pe_callTy call_list_of (by rfl) T.n_list (by decide +kernel) (pa_cons (pe_slice (U.uSl (K := K) rfl) (pv 0) (po_some pe_int) (po_some pe_int)) pa_nil)))) (pg_name (i := 1) sc_law.nd rfl (Or.inl rfl)) (pss_cons (ps_set (i := 2) sc_law.nd rfl (Or.inl rfl) (pe_call (ok_law_bag T) (hr.mono (by decide)) rfl T.m_law_bag T.F_law_bag.kp T.b_law_bag .nil pass0 (pa_cons (pv 1) pa_nil)))
    (pss_cons (ps_set (i := 3) sc_law.nd rfl (Or.inl rfl) (pe_call (ok_law_tree_of T) (hr.mono (by decide)) rfl T.m_law_tree_of T.F_law_tree_of.kp T.b_law_tree_of .nil pass0 (pa_cons (pv 2) (pa_cons (pe_op U.uAdd pe_int (pe_call (ok_law_draw T) (hr.mono (by decide)) rfl T.m_law_draw T.F_law_draw.kp T.b_law_draw .nil pass0 (pa_cons (pv 2) (pa_cons pe_int pa_nil)))) pa_nil))))
    (pss_cons (ps_set (i := 4) sc_law.nd rfl (Or.inl rfl) (pe_call (ok_law_odd_of T) (hr.mono (by decide)) rfl T.m_law_odd_of T.F_law_odd_of.kp T.b_law_odd_of .nil pass0 (pa_cons (pv 2) (pa_cons (pe_call (ok_law_draw T) (hr.mono (by decide)) rfl T.m_law_draw T.F_law_draw.kp T.b_law_draw .nil pass0 (pa_cons (pv 2) (pa_cons pe_int pa_nil))) pa_nil))))
    (pss_cons (ps_if (PW.pt (pw_or (pt_cmpR op_notBl (pe_call (ok_is_value_tree T) (hr.mono (by decide)) rfl T.m_is_value_tree T.F_is_value_tree.kp T.b_is_value_tree .nil pass0 (pa_cons (pv 3) pa_nil)) pe_bl (nomark _)) (pw_or1 (pt_cmpR op_notBl (pe_call (ok_is_value_tree T) (hr.mono (by decide)) rfl T.m_is_value_tree T.F_is_value_tree.kp T.b_is_value_tree .nil pass0 (pa_cons (pv 4) pa_nil)) pe_bl (nomark _))))) (pss_one (ps_ret pe_bl)) pss_nil)
    (pss_one (ps_for PassesOwn.never rfl (pi_range1 (by rfl) T.n_range (pa_cons pe_int pa_nil)) (pg_name (i := 5) sc_law.nd rfl (Or.inl rfl)) (pss_cons (ps_set (i := 6) sc_law.nd rfl (Or.inl rfl) (pe_call (ok_law_pattern_of T) (hr.mono (by decide)) rfl T.m_law_pattern_of T.F_law_pattern_of.kp T.b_law_pattern_of .nil pass0 (pa_cons (pv 2) (pa_cons (pv 3) (pa_cons (pe_lst (pa_cons pe_str (pa_cons pe_str (pa_cons pe_str pa_nil)))) pa_nil)))))
    (pss_cons (ps_set (i := 7) sc_law.nd rfl (Or.inl rfl) (pe_call (ok_law_takes_of T) (hr.mono (by decide)) rfl T.m_law_takes_of T.F_law_takes_of.kp T.b_law_takes_of .nil pass0 (pa_cons (pv 6) (pa_cons (pv 3) pa_nil))))
    (pss_cons (ps_set (i := 8) sc_law.nd rfl (Or.inl rfl) (pe_call (ok_takes T) (hr.mono (by decide)) rfl T.m_takes T.F_takes.kp T.b_takes .nil pass0 (pa_cons (pv 6) (pa_cons (pv 3) pa_nil))))
    (pss_one (ps_if (PW.pt (pw_or (pt_cmpR (U.uNe (K := K) rfl hr.units) (pv 8) (pv 7) (nomark _)) (pw_or1 (pt_not (pt_val (pe_callB call_isi (by rfl) T.n_isinstance (by decide +kernel) (pa_cons (pv 8) (pa_cons (pe_bltn (v := .ty "bool") (by rfl) T.n_bool (by decide +kernel) rfl) pa_nil)))))))) (pss_one (ps_ret pe_bl)) pss_nil))))))))))))
    (pss_one (ps_ret (pe_and (pe_cmpR op_isBl (pe_call (ok_is_value_tree T) (hr.mono (by decide)) rfl T.m_is_value_tree T.F_is_value_tree.kp T.b_is_value_tree .nil pass0 (pa_cons (pe_tup (pa_cons pe_str (pa_cons pe_str (pa_cons (pe_tup (pa_cons pe_str (pa_cons pe_str (pa_cons (pe_tup (pa_cons pe_str (pa_cons pe_str pa_nil))) pa_nil)))) pa_nil)))) pa_nil)) pe_bl (nomark _)) (pe_one (pe_cmpR op_isBl (pe_call (ok_is_value_tree T) (hr.mono (by decide)) rfl T.m_is_value_tree T.F_is_value_tree.kp T.b_is_value_tree .nil pass0 (pa_cons (pe_tupF pa_nil) pa_nil)) pe_bl (nomark _))))))), ?_⟩
    walk_at "w"
    refine ⟨a, ns, 0, rfl, hS, hl, fun c H1 s1 => ?_⟩
    walk_at "w"
    intro p1 n1; generalize hX : upd _ p1 _ = H2; obtain ⟨s2, g2⟩ := U.newF n1 hX; clear hX
    walk_at "w"
    have hS2 := sqL_same (s1.trans s2) hS
    refine Or.inr ⟨a, _, rfl, hS2, fun p2 n2 => ?_⟩
    generalize hX : upd H2 p2 _ = H3
    obtain ⟨s3, g3⟩ := U.newF n2 hX
    clear hX
    obtain ⟨ms, em⟩ := U.cut_map ns (some 1) (some 9)
    have hml : ms.length ≤ 63 := by
      have h1 := cutV_length (ns.map V.int) (some 1) (some 9)
      rw [em, List.length_map, List.length_map] at h1
      omega
    rw [em] at g3
    walk_at "w"
    refine ⟨p2, _, rfl, .inl (SqL.of g3), fun p3 n3 => ?_⟩
    generalize hX : upd H3 p3 _ = H4
    obtain ⟨s4, g4⟩ := U.newF n3 hX
    clear hX
    have g2' := s4 _ _ (s3 _ _ g2)
    refine Or.inr (Or.inr ⟨p1, p3, _, _, rfl, rfl, g2', g4, ?_, fun p5 n5 => ?_⟩)
    · rw [List.length_map, PySem.sizeLine_eq]
      show 1 + ms.length ≤ _
      omega
    generalize hX : upd H4 p5 _ = H5
    obtain ⟨s5, g5⟩ := U.newF n5 hX
    clear hX
    refine ⟨p5, rfl, ⟨_, SqL.of g5⟩, ?_⟩
    refine for_list (K := K) (xs := (c :: ms).map V.int) (fun i σ Hj => ∃ o1 o2 o3 o4 o5 o6 o7 o8 : Option V, σ = [some (.ref a), o1, o2, o3, o4, o5, o6, o7, o8] ∧ Same H5 Hj) ⟨none, none, none, none, none, none, none, none, rfl, Same.refl _⟩ (fun i σ Hj _ st => ?_) ?_ ?_
    · obtain ⟨_, _, _, _, _, _, _, _, _, sj⟩ := st
      exact SqL.of (sj _ _ g5)
    · rintro i x σ Hj hx ⟨o1, o2, o3, o4, o5, o6, o7, o8, rfl, sj⟩
      rw [List.getElem?_map] at hx
      obtain ⟨cell, _, rfl⟩ := Option.map_eq_some_iff.mp hx
      walk_at "w"
      refine fun pl H6 nP plA s6 => ?_
      have nP5 : H5 pl = none := sj.free nP
      have s56 := sj.trans s6
      walk_at "w"
      intro j G1 hj pA1 b1
      walk_at "w"
      refine ⟨by show 1 + j ≤ 3; omega, fun x v G2 hv hi2 pA2 b2 => ?_⟩
      have hd1 : 1 + j ≤ 3 := by omega
      obtain ⟨vt1, vz1⟩ := hv.vt hd1
      walk_at "w"
      intro j2 G3 hj2 pA3 b3
      walk_at "w"
      refine ⟨by show j2 ≤ 2; omega, fun y u G4 hy hi4 pA4 b4 => ?_⟩
      have hd2 : j2 ≤ 2 := by omega
      obtain ⟨vt2, vz2⟩ := hy.vt hd2
      have L24 : Lst G2 G4 := .pool (b3.trans b4) pA2 pA4
      have hi24 := hi2.lst L24
      walk_at "w"
      refine ⟨x, v, true, rfl, hi24, vt1, vz1, fun G5 t5 => ?_⟩
      walk_at "w"
      refine ⟨y, u, false, rfl, hi4.keep t5, vt2, vz2, fun G6 t6 => ?_⟩
      walk_at "w"
      have t56 := t5.trans t6
      have pA6 := pA4.same t56
      have b06 : U.SameBut pl H6 G6 := (((b1.trans b2).trans b3).trans b4).trans (.of t56)
      have hi6 := hi24.keep t56
      refine U.forR (n := 3) (fun t σ Ht => ∃ o5 o6 o7 o8 : Option V, σ = [some (.ref a), some (.int cell), some (.ref pl), some v, some u, o5, o6, o7, o8] ∧ PoolAt Ht pl ∧ Is K Ht x v ∧ U.SameBut pl H6 Ht) ⟨o5, o6, o7, o8, rfl, pA6, hi6, b06⟩ ?_ ?_
      · rintro t σ Ht ht ⟨o5, o6, o7, o8, rfl, pAt, hit, bt⟩
        walk_at "w"
        intro lw nw; generalize hX : upd _ lw _ = W1; obtain ⟨z1, y1⟩ := U.newF nw hX; clear hX
        have lp : lw ≠ pl := pool_ne pAt nw
        walk_at "w"
        refine ⟨pl, lw, 1 + j, x, v, ["x", "y", "z"], rfl, pAt.same z1, lp, y1, by show 3 ≤ 3; decide, by decide +kernel, hv, hit.keep z1, by show 1 + j ≤ 4; omega, fun y u' W2 ws' hy ip pA2' gl hwl hws but => ?_⟩
        walk_at "w"
        have LW := but.lst (pAt.same z1).some pA2'.some ⟨_, y1⟩ ⟨_, gl⟩
        have hi2 := (hit.keep z1).lst LW
        refine ⟨y, x, u', v, 1 + j, rfl, hy, hv, ip, hi2, by show 1 + j ≤ 3; omega, fun W3 z3 => ?_⟩
        walk_at "w"
        refine ⟨y, x, u', v, 1 + j, rfl, hy, hv, ip.keep z3, hi2.keep z3, by show 1 + j ≤ 3; omega, fun W4 z4 => ?_⟩
        walk_at "w"
        rw [show (!decide (V.bl (tk (1 + j + 1) y x) = V.bl (tk (1 + j + 1) y x))) = false from by rw [decide_eq_true rfl] <;> rfl]
        walk_at "w"
        refine ⟨_, _, _, _, _, rfl, .ty _, .base (.bl _), kt_bool.2.2.2, ?_⟩
        walk_at "w"
        have z34 := z3.trans z4
        have nlH6 : H6 lw = none := bt.free lp nw
        refine ⟨_, _, _, _, rfl, pA2'.same z34, hi2.keep z34, fun c o n e => z34 c o (but c o n (fun z => by rw [z, nlH6] at e; cases e) (z1 c o (bt c o n e)))⟩
      · rintro σ Ht ⟨o5, o6, o7, o8, rfl, pAt, hit, bt⟩
        exact ⟨_, _, _, _, _, _, _, _, rfl, U.Same.but s56 bt nP5⟩
    · rintro σ Hj ⟨o1, o2, o3, o4, o5, o6, o7, o8, rfl, sj⟩
      walk_at "w"
      intro q1 m1; generalize hX : upd _ q1 _ = G1; obtain ⟨t1, e1⟩ := U.newF m1 hX; clear hX
      walk_at "w"
      intro q2 m2; generalize hX : upd _ q2 _ = G2; obtain ⟨t2, e2⟩ := U.newF m2 hX; clear hX
      walk_at "w"
      intro q3 m3; generalize hX : upd _ q3 _ = G3; obtain ⟨t3, e3⟩ := U.newF m3 hX; clear hX
      have w0 : (Str.ofString "name").length ≤ 100 := by decide +kernel
      have w1 : (Str.ofString "x").length ≤ 100 := by decide +kernel
      have w2 : (Str.ofString "fn").length ≤ 100 := by decide +kernel
      have w3 : (Str.ofString "y").length ≤ 100 := by decide +kernel
      have i1 : Is K G1 (.tup [.str "name", .str "x"]) (.ref q1) := .mk e1 (.cons (.str _ w0) (.cons (.str _ w1) .nil))
      have i2 : Is K G2 (.tup [.str "fn", .str "y", .tup [.str "name", .str "x"]]) (.ref q2) := .mk e2 (.cons (.str _ w2) (.cons (.str _ w3) (.cons (i1.keep t2) .nil)))
      have i3 : Is K G3 lastV (.ref q3) := .mk e3 (.cons (.str _ w2) (.cons (.str _ w1) (.cons (i2.keep t3) .nil)))
      walk_at "w"
      refine ⟨lastV, _, true, rfl, i3, last_vt.1, last_vt.2, fun G4 t4 => ?_⟩
      walk_at "w"
      intro q5 _ ocq5 odq5 m5; generalize hX : upd _ q5 _ = G5; obtain ⟨t5, e5⟩ := U.newF m5 hX; clear hX
      walk_at "w"
      refine ⟨.tup [], _, false, rfl, .mkF e5 ocq5 odq5 .nil, empty_vt.1, empty_vt.2, fun G6 t6 => ?_⟩
      walk_at "w"
      exact k G6
end
set_option maxHeartbeats 8000000 in
theorem all_mk {l : PySem.W.OpenLaw} {w : World} {K : PySem.W.Frag} {h : Heap} {mg : Str → Option Value} {fa : Addr} (X : K.In h) (G : h.Ns mainGlobals mg) (hfa : mg "law" = some (.ref fa))
    {od0 an0 od1 an1 od2 an2 od3 an3 od4 an4 od5 an5 od6 an6 od7 an7 od8 an8 od9 an9 od10 an10 od11 an11 od12 an12 od13 an13 od14 an14 od15 an15 od16 an16 od17 an17 od18 an18 od19 an19 od20 an20 od21 an21 od22 an22 od23 an23 od24 an24 od25 an25 od26 an26 od27 an27 od28 an28 od29 an29 od30 an30 od31 an31 od32 an32 od33 an33 od34 an34 od35 an35 od36 an36 od37 an37 od38 an38 od39 an39 od40 an40 od41 an41 od42 an42 od43 an43 od44 an44 od45 an45 : Option Addr} {sl0 sl1 sl2 sl3 sl4 sl5 sl6 sl7 sl8 sl9 sl10 sl11 sl12 sl13 sl14 sl15 sl16 sl17 sl18 sl19 sl20 sl21 sl22 sl23 sl24 sl25 sl26 sl27 sl28 sl29 sl30 sl31 sl32 sl33 sl34 sl35 sl36 sl37 sl38 sl39 sl40 sl41 sl42 sl43 sl44 sl45 : Array (Option Value)} {oc0 kV0 dc0 pm0 cd0 ct0 oc1 kV1 dc1 pm1 cd1 ct1 oc2 kV2 dc2 pm2 cd2 ct2 oc3 kV3 dc3 pm3 cd3 ct3 oc4 kV4 dc4 pm4 cd4 ct4 oc5 kV5 dc5 pm5 cd5 ct5 oc6 kV6 dc6 pm6 cd6 ct6 oc7 kV7 dc7 pm7 cd7 ct7 oc8 kV8 dc8 pm8 cd8 ct8 oc9 kV9 dc9 pm9 cd9 ct9 oc10 kV10 dc10 pm10 cd10 ct10 oc11 kV11 dc11 pm11 cd11 ct11 oc12 kV12 dc12 pm12 cd12 ct12 oc13 kV13 dc13 pm13 cd13 ct13 oc14 kV14 dc14 pm14 cd14 ct14 oc15 kV15 dc15 pm15 cd15 ct15 oc16 kV16 dc16 pm16 cd16 ct16 oc17 kV17 dc17 pm17 cd17 ct17 oc18 kV18 dc18 pm18 cd18 ct18 oc19 kV19 dc19 pm19 cd19 ct19 oc20 kV20 dc20 pm20 cd20 ct20 oc21 kV21 dc21 pm21 cd21 ct21 oc22 kV22 dc22 pm22 cd22 ct22 oc23 kV23 dc23 pm23 cd23 ct23 oc24 kV24 dc24 pm24 cd24 ct24 oc25 kV25 dc25 pm25 cd25 ct25 oc26 kV26 dc26 pm26 cd26 ct26 oc27 kV27 dc27 pm27 cd27 ct27 oc28 kV28 dc28 pm28 cd28 ct28 oc29 kV29 dc29 pm29 cd29 ct29 oc30 kV30 dc30 pm30 cd30 ct30 oc31 kV31 dc31 pm31 cd31 ct31 oc32 kV32 dc32 pm32 cd32 ct32 oc33 kV33 dc33 pm33 cd33 ct33 oc34 kV34 dc34 pm34 cd34 ct34 oc35 kV35 dc35 pm35 cd35 ct35 oc36 kV36 dc36 pm36 cd36 ct36 oc37 kV37 dc37 pm37 cd37 ct37 oc38 kV38 dc38 pm38 cd38 ct38 oc39 kV39 dc39 pm39 cd39 ct39 oc40 kV40 dc40 pm40 cd40 ct40 oc41 kV41 dc41 pm41 cd41 ct41 oc42 kV42 dc42 pm42 cd42 ct42 oc43 kV43 dc43 pm43 cd43 ct43 oc44 kV44 dc44 pm44 cd44 ct44 oc45 kV45 dc45 pm45 cd45 ct45 : Value}
    {f0 f1 f2 f3 f4 f5 f6 f7 f8 f9 f10 f11 f12 f13 f14 f15 f16 f17 f18 f19 f20 f21 f22 f23 f24 f25 f26 f27 f28 f29 f30 f31 f32 f33 f34 f35 f36 f37 f38 f39 f40 f41 f42 f43 f44 f45 C_KindError C_ByZero C_Ratio : Addr}
    (aC_KindError : PySem.W.nsIn K mainGlobals "KindError" = some (some (.ref C_KindError)))
    (aC_ByZero : PySem.W.nsIn K mainGlobals "ByZero" = some (some (.ref C_ByZero)))
    (aC_Ratio : PySem.W.nsIn K mainGlobals "Ratio" = some (some (.ref C_Ratio)))
    (a0 : PySem.W.nsIn K mainGlobals "is_row" = some (some (.ref f0)))
    (l0 : K.lookup f0 = some ⟨oc0, od0, .func (PySem.W.fnOf "is_row" "is_row" (defArgs s_is_row) (defBody s_is_row) (defScope s_is_row) .none kV0 dc0 pm0 an0 cd0 ct0), sl0⟩)
    (e0 : PySem.W.codeIn K cd0 "is_row" = true)
    (k0 : PySem.W.keepIn K (.ref f0) = true)
    (a1 : PySem.W.nsIn K mainGlobals "parts_in" = some (some (.ref f1)))
    (l1 : K.lookup f1 = some ⟨oc1, od1, .func (PySem.W.fnOf "parts_in" "parts_in" (defArgs s_parts_in) (defBody s_parts_in) (defScope s_parts_in) .none kV1 dc1 pm1 an1 cd1 ct1), sl1⟩)
    (e1 : PySem.W.codeIn K cd1 "parts_in" = true)
    (k1 : PySem.W.keepIn K (.ref f1) = true)
    (a2 : PySem.W.nsIn K mainGlobals "parts_of" = some (some (.ref f2)))
    (l2 : K.lookup f2 = some ⟨oc2, od2, .func (PySem.W.fnOf "parts_of" "parts_of" (defArgs s_parts_of) (defBody s_parts_of) (defScope s_parts_of) .none kV2 dc2 pm2 an2 cd2 ct2), sl2⟩)
    (e2 : PySem.W.codeIn K cd2 "parts_of" = true)
    (k2 : PySem.W.keepIn K (.ref f2) = true)
    (a3 : PySem.W.nsIn K mainGlobals "inner_numbers" = some (some (.ref f3)))
    (l3 : K.lookup f3 = some ⟨oc3, od3, .func (PySem.W.fnOf "inner_numbers" "inner_numbers" (defArgs s_inner_numbers) (defBody s_inner_numbers) (defScope s_inner_numbers) .none kV3 dc3 pm3 an3 cd3 ct3), sl3⟩)
    (e3 : PySem.W.codeIn K cd3 "inner_numbers" = true)
    (k3 : PySem.W.keepIn K (.ref f3) = true)
    (a4 : PySem.W.nsIn K mainGlobals "is_name" = some (some (.ref f4)))
    (l4 : K.lookup f4 = some ⟨oc4, od4, .func (PySem.W.fnOf "is_name" "is_name" (defArgs s_is_name) (defBody s_is_name) (defScope s_is_name) .none kV4 dc4 pm4 an4 cd4 ct4), sl4⟩)
    (e4 : PySem.W.codeIn K cd4 "is_name" = true)
    (k4 : PySem.W.keepIn K (.ref f4) = true)
    (a5 : PySem.W.nsIn K mainGlobals "uses_and_owns" = some (some (.ref f5)))
    (l5 : K.lookup f5 = some ⟨oc5, od5, .func (PySem.W.fnOf "uses_and_owns" "uses_and_owns" (defArgs s_uses_and_owns) (defBody s_uses_and_owns) (defScope s_uses_and_owns) .none kV5 dc5 pm5 an5 cd5 ct5), sl5⟩)
    (e5 : PySem.W.codeIn K cd5 "uses_and_owns" = true)
    (k5 : PySem.W.keepIn K (.ref f5) = true)
    (a6 : PySem.W.nsIn K mainGlobals "uses_in" = some (some (.ref f6)))
    (l6 : K.lookup f6 = some ⟨oc6, od6, .func (PySem.W.fnOf "uses_in" "uses_in" (defArgs s_uses_in) (defBody s_uses_in) (defScope s_uses_in) .none kV6 dc6 pm6 an6 cd6 ct6), sl6⟩)
    (e6 : PySem.W.codeIn K cd6 "uses_in" = true)
    (k6 : PySem.W.keepIn K (.ref f6) = true)
    (a7 : PySem.W.nsIn K mainGlobals "run_end" = some (some (.ref f7)))
    (l7 : K.lookup f7 = some ⟨oc7, od7, .func (PySem.W.fnOf "run_end" "run_end" (defArgs s_run_end) (defBody s_run_end) (defScope s_run_end) .none kV7 dc7 pm7 an7 cd7 ct7), sl7⟩)
    (e7 : PySem.W.codeIn K cd7 "run_end" = true)
    (k7 : PySem.W.keepIn K (.ref f7) = true)
    (a8 : PySem.W.nsIn K mainGlobals "word_end" = some (some (.ref f8)))
    (l8 : K.lookup f8 = some ⟨oc8, od8, .func (PySem.W.fnOf "word_end" "word_end" (defArgs s_word_end) (defBody s_word_end) (defScope s_word_end) .none kV8 dc8 pm8 an8 cd8 ct8), sl8⟩)
    (e8 : PySem.W.codeIn K cd8 "word_end" = true)
    (k8 : PySem.W.keepIn K (.ref f8) = true)
    (a9 : PySem.W.nsIn K mainGlobals "tag_end" = some (some (.ref f9)))
    (l9 : K.lookup f9 = some ⟨oc9, od9, .func (PySem.W.fnOf "tag_end" "tag_end" (defArgs s_tag_end) (defBody s_tag_end) (defScope s_tag_end) .none kV9 dc9 pm9 an9 cd9 ct9), sl9⟩)
    (e9 : PySem.W.codeIn K cd9 "tag_end" = true)
    (k9 : PySem.W.keepIn K (.ref f9) = true)
    (a10 : PySem.W.nsIn K mainGlobals "is_word" = some (some (.ref f10)))
    (l10 : K.lookup f10 = some ⟨oc10, od10, .func (PySem.W.fnOf "is_word" "is_word" (defArgs s_is_word) (defBody s_is_word) (defScope s_is_word) .none kV10 dc10 pm10 an10 cd10 ct10), sl10⟩)
    (e10 : PySem.W.codeIn K cd10 "is_word" = true)
    (k10 : PySem.W.keepIn K (.ref f10) = true)
    (a11 : PySem.W.nsIn K mainGlobals "is_plain_word" = some (some (.ref f11)))
    (l11 : K.lookup f11 = some ⟨oc11, od11, .func (PySem.W.fnOf "is_plain_word" "is_plain_word" (defArgs s_is_plain_word) (defBody s_is_plain_word) (defScope s_is_plain_word) .none kV11 dc11 pm11 an11 cd11 ct11), sl11⟩)
    (e11 : PySem.W.codeIn K cd11 "is_plain_word" = true)
    (k11 : PySem.W.keepIn K (.ref f11) = true)
    (a12 : PySem.W.nsIn K mainGlobals "is_tag" = some (some (.ref f12)))
    (l12 : K.lookup f12 = some ⟨oc12, od12, .func (PySem.W.fnOf "is_tag" "is_tag" (defArgs s_is_tag) (defBody s_is_tag) (defScope s_is_tag) .none kV12 dc12 pm12 an12 cd12 ct12), sl12⟩)
    (e12 : PySem.W.codeIn K cd12 "is_tag" = true)
    (k12 : PySem.W.keepIn K (.ref f12) = true)
    (a13 : PySem.W.nsIn K mainGlobals "is_kind_name" = some (some (.ref f13)))
    (l13 : K.lookup f13 = some ⟨oc13, od13, .func (PySem.W.fnOf "is_kind_name" "is_kind_name" (defArgs s_is_kind_name) (defBody s_is_kind_name) (defScope s_is_kind_name) .none kV13 dc13 pm13 an13 cd13 ct13), sl13⟩)
    (e13 : PySem.W.codeIn K cd13 "is_kind_name" = true)
    (k13 : PySem.W.keepIn K (.ref f13) = true)
    (a14 : PySem.W.nsIn K mainGlobals "is_integer" = some (some (.ref f14)))
    (l14 : K.lookup f14 = some ⟨oc14, od14, .func (PySem.W.fnOf "is_integer" "is_integer" (defArgs s_is_integer) (defBody s_is_integer) (defScope s_is_integer) .none kV14 dc14 pm14 an14 cd14 ct14), sl14⟩)
    (e14 : PySem.W.codeIn K cd14 "is_integer" = true)
    (k14 : PySem.W.keepIn K (.ref f14) = true)
    (a15 : PySem.W.findIn K (.ref C_Ratio) "__init__" = some (some (.ref f15)))
    {D15 : Addr} {Dd15 : Option Addr} {Dn15 : Nat} {Ds15 : Array (Option Value)} {Dt15_0 : Tok}
    (l15 : K.lookup f15 = some ⟨oc15, od15, .func (PySem.W.fnOf "__init__" "Ratio.__init__" (defArgs s_Ratio_init) (defBody s_Ratio_init) (defScope s_Ratio_init) (.ref D15) kV15 dc15 pm15 an15 cd15 ct15), sl15⟩)
    (ld15 : K.lookup D15 = some ⟨.type "tuple", Dd15, .seq #[.int 1 Dt15_0] Dn15, Ds15⟩)
    (e15 : PySem.W.codeIn K cd15 "Ratio.__init__" = true)
    (k15 : PySem.W.keepIn K (.ref f15) = true)
    (a16 : PySem.W.nsIn K mainGlobals "is_factor" = some (some (.ref f16)))
    (l16 : K.lookup f16 = some ⟨oc16, od16, .func (PySem.W.fnOf "is_factor" "is_factor" (defArgs s_is_factor) (defBody s_is_factor) (defScope s_is_factor) .none kV16 dc16 pm16 an16 cd16 ct16), sl16⟩)
    (e16 : PySem.W.codeIn K cd16 "is_factor" = true)
    (k16 : PySem.W.keepIn K (.ref f16) = true)
    (a17 : PySem.W.nsIn K mainGlobals "is_measure" = some (some (.ref f17)))
    (l17 : K.lookup f17 = some ⟨oc17, od17, .func (PySem.W.fnOf "is_measure" "is_measure" (defArgs s_is_measure) (defBody s_is_measure) (defScope s_is_measure) .none kV17 dc17 pm17 an17 cd17 ct17), sl17⟩)
    (e17 : PySem.W.codeIn K cd17 "is_measure" = true)
    (k17 : PySem.W.keepIn K (.ref f17) = true)
    (a18 : PySem.W.nsIn K mainGlobals "first_stray" = some (some (.ref f18)))
    (l18 : K.lookup f18 = some ⟨oc18, od18, .func (PySem.W.fnOf "first_stray" "first_stray" (defArgs s_first_stray) (defBody s_first_stray) (defScope s_first_stray) .none kV18 dc18 pm18 an18 cd18 ct18), sl18⟩)
    (e18 : PySem.W.codeIn K cd18 "first_stray" = true)
    (k18 : PySem.W.keepIn K (.ref f18) = true)
    (a19 : PySem.W.nsIn K mainGlobals "row_kinds" = some (some (.ref f19)))
    (l19 : K.lookup f19 = some ⟨oc19, od19, .func (PySem.W.fnOf "row_kinds" "row_kinds" (defArgs s_row_kinds) (defBody s_row_kinds) (defScope s_row_kinds) .none kV19 dc19 pm19 an19 cd19 ct19), sl19⟩)
    (e19 : PySem.W.codeIn K cd19 "row_kinds" = true)
    (k19 : PySem.W.keepIn K (.ref f19) = true)
    (a20 : PySem.W.nsIn K mainGlobals "inner_values" = some (some (.ref f20)))
    (l20 : K.lookup f20 = some ⟨oc20, od20, .func (PySem.W.fnOf "inner_values" "inner_values" (defArgs s_inner_values) (defBody s_inner_values) (defScope s_inner_values) .none kV20 dc20 pm20 an20 cd20 ct20), sl20⟩)
    (e20 : PySem.W.codeIn K cd20 "inner_values" = true)
    (k20 : PySem.W.keepIn K (.ref f20) = true)
    (a21 : PySem.W.nsIn K mainGlobals "is_built_kind" = some (some (.ref f21)))
    (l21 : K.lookup f21 = some ⟨oc21, od21, .func (PySem.W.fnOf "is_built_kind" "is_built_kind" (defArgs s_is_built_kind) (defBody s_is_built_kind) (defScope s_is_built_kind) .none kV21 dc21 pm21 an21 cd21 ct21), sl21⟩)
    (e21 : PySem.W.codeIn K cd21 "is_built_kind" = true)
    (k21 : PySem.W.keepIn K (.ref f21) = true)
    (a22 : PySem.W.nsIn K mainGlobals "is_kind" = some (some (.ref f22)))
    (l22 : K.lookup f22 = some ⟨oc22, od22, .func (PySem.W.fnOf "is_kind" "is_kind" (defArgs s_is_kind) (defBody s_is_kind) (defScope s_is_kind) .none kV22 dc22 pm22 an22 cd22 ct22), sl22⟩)
    (e22 : PySem.W.codeIn K cd22 "is_kind" = true)
    (k22 : PySem.W.keepIn K (.ref f22) = true)
    (a23 : PySem.W.nsIn K mainGlobals "is_unit" = some (some (.ref f23)))
    (l23 : K.lookup f23 = some ⟨oc23, od23, .func (PySem.W.fnOf "is_unit" "is_unit" (defArgs s_is_unit) (defBody s_is_unit) (defScope s_is_unit) .none kV23 dc23 pm23 an23 cd23 ct23), sl23⟩)
    (e23 : PySem.W.codeIn K cd23 "is_unit" = true)
    (k23 : PySem.W.keepIn K (.ref f23) = true)
    (a24 : PySem.W.nsIn K mainGlobals "are_entries" = some (some (.ref f24)))
    (l24 : K.lookup f24 = some ⟨oc24, od24, .func (PySem.W.fnOf "are_entries" "are_entries" (defArgs s_are_entries) (defBody s_are_entries) (defScope s_are_entries) .none kV24 dc24 pm24 an24 cd24 ct24), sl24⟩)
    (e24 : PySem.W.codeIn K cd24 "are_entries" = true)
    (k24 : PySem.W.keepIn K (.ref f24) = true)
    (a25 : PySem.W.nsIn K mainGlobals "are_rows" = some (some (.ref f25)))
    (l25 : K.lookup f25 = some ⟨oc25, od25, .func (PySem.W.fnOf "are_rows" "are_rows" (defArgs s_are_rows) (defBody s_are_rows) (defScope s_are_rows) .none kV25 dc25 pm25 an25 cd25 ct25), sl25⟩)
    (e25 : PySem.W.codeIn K cd25 "are_rows" = true)
    (k25 : PySem.W.keepIn K (.ref f25) = true)
    (a26 : PySem.W.nsIn K mainGlobals "is_of" = some (some (.ref f26)))
    (l26 : K.lookup f26 = some ⟨oc26, od26, .func (PySem.W.fnOf "is_of" "is_of" (defArgs s_is_of) (defBody s_is_of) (defScope s_is_of) .none kV26 dc26 pm26 an26 cd26 ct26), sl26⟩)
    (e26 : PySem.W.codeIn K cd26 "is_of" = true)
    (k26 : PySem.W.keepIn K (.ref f26) = true)
    (a27 : PySem.W.nsIn K mainGlobals "fits_shape" = some (some (.ref f27)))
    (l27 : K.lookup f27 = some ⟨oc27, od27, .func (PySem.W.fnOf "fits_shape" "fits_shape" (defArgs s_fits_shape) (defBody s_fits_shape) (defScope s_fits_shape) .none kV27 dc27 pm27 an27 cd27 ct27), sl27⟩)
    (e27 : PySem.W.codeIn K cd27 "fits_shape" = true)
    (k27 : PySem.W.keepIn K (.ref f27) = true)
    (a28 : PySem.W.nsIn K mainGlobals "shaped" = some (some (.ref f28)))
    (l28 : K.lookup f28 = some ⟨oc28, od28, .func (PySem.W.fnOf "shaped" "shaped" (defArgs s_shaped) (defBody s_shaped) (defScope s_shaped) .none kV28 dc28 pm28 an28 cd28 ct28), sl28⟩)
    (e28 : PySem.W.codeIn K cd28 "shaped" = true)
    (k28 : PySem.W.keepIn K (.ref f28) = true)
    (a29 : PySem.W.nsIn K mainGlobals "is_tree" = some (some (.ref f29)))
    (l29 : K.lookup f29 = some ⟨oc29, od29, .func (PySem.W.fnOf "is_tree" "is_tree" (defArgs s_is_tree) (defBody s_is_tree) (defScope s_is_tree) .none kV29 dc29 pm29 an29 cd29 ct29), sl29⟩)
    (e29 : PySem.W.codeIn K cd29 "is_tree" = true)
    (k29 : PySem.W.keepIn K (.ref f29) = true)
    (a30 : PySem.W.nsIn K mainGlobals "is_pattern" = some (some (.ref f30)))
    (l30 : K.lookup f30 = some ⟨oc30, od30, .func (PySem.W.fnOf "is_pattern" "is_pattern" (defArgs s_is_pattern) (defBody s_is_pattern) (defScope s_is_pattern) .none kV30 dc30 pm30 an30 cd30 ct30), sl30⟩)
    (e30 : PySem.W.codeIn K cd30 "is_pattern" = true)
    (k30 : PySem.W.keepIn K (.ref f30) = true)
    (a31 : PySem.W.nsIn K mainGlobals "scopes_in" = some (some (.ref f31)))
    (l31 : K.lookup f31 = some ⟨oc31, od31, .func (PySem.W.fnOf "scopes_in" "scopes_in" (defArgs s_scopes_in) (defBody s_scopes_in) (defScope s_scopes_in) .none kV31 dc31 pm31 an31 cd31 ct31), sl31⟩)
    (e31 : PySem.W.codeIn K cd31 "scopes_in" = true)
    (k31 : PySem.W.keepIn K (.ref f31) = true)
    (a32 : PySem.W.nsIn K mainGlobals "marks_in" = some (some (.ref f32)))
    (l32 : K.lookup f32 = some ⟨oc32, od32, .func (PySem.W.fnOf "marks_in" "marks_in" (defArgs s_marks_in) (defBody s_marks_in) (defScope s_marks_in) .none kV32 dc32 pm32 an32 cd32 ct32), sl32⟩)
    (e32 : PySem.W.codeIn K cd32 "marks_in" = true)
    (k32 : PySem.W.keepIn K (.ref f32) = true)
    (a33 : PySem.W.nsIn K mainGlobals "binder_marks" = some (some (.ref f33)))
    (l33 : K.lookup f33 = some ⟨oc33, od33, .func (PySem.W.fnOf "binder_marks" "binder_marks" (defArgs s_binder_marks) (defBody s_binder_marks) (defScope s_binder_marks) .none kV33 dc33 pm33 an33 cd33 ct33), sl33⟩)
    (e33 : PySem.W.codeIn K cd33 "binder_marks" = true)
    (k33 : PySem.W.keepIn K (.ref f33) = true)
    (a34 : PySem.W.nsIn K mainGlobals "binder_numbers" = some (some (.ref f34)))
    (l34 : K.lookup f34 = some ⟨oc34, od34, .func (PySem.W.fnOf "binder_numbers" "binder_numbers" (defArgs s_binder_numbers) (defBody s_binder_numbers) (defScope s_binder_numbers) .none kV34 dc34 pm34 an34 cd34 ct34), sl34⟩)
    (e34 : PySem.W.codeIn K cd34 "binder_numbers" = true)
    (k34 : PySem.W.keepIn K (.ref f34) = true)
    (a35 : PySem.W.nsIn K mainGlobals "takes" = some (some (.ref f35)))
    (l35 : K.lookup f35 = some ⟨oc35, od35, .func (PySem.W.fnOf "takes" "takes" (defArgs s_takes) (defBody s_takes) (defScope s_takes) .none kV35 dc35 pm35 an35 cd35 ct35), sl35⟩)
    (e35 : PySem.W.codeIn K cd35 "takes" = true)
    (k35 : PySem.W.keepIn K (.ref f35) = true)
    (a36 : PySem.W.nsIn K mainGlobals "is_value_shape" = some (some (.ref f36)))
    (l36 : K.lookup f36 = some ⟨oc36, od36, .func (PySem.W.fnOf "is_value_shape" "is_value_shape" (defArgs s_is_value_shape) (defBody s_is_value_shape) (defScope s_is_value_shape) .none kV36 dc36 pm36 an36 cd36 ct36), sl36⟩)
    (e36 : PySem.W.codeIn K cd36 "is_value_shape" = true)
    (k36 : PySem.W.keepIn K (.ref f36) = true)
    (a37 : PySem.W.nsIn K mainGlobals "is_value_tree" = some (some (.ref f37)))
    (l37 : K.lookup f37 = some ⟨oc37, od37, .func (PySem.W.fnOf "is_value_tree" "is_value_tree" (defArgs s_is_value_tree) (defBody s_is_value_tree) (defScope s_is_value_tree) .none kV37 dc37 pm37 an37 cd37 ct37), sl37⟩)
    (e37 : PySem.W.codeIn K cd37 "is_value_tree" = true)
    (k37 : PySem.W.keepIn K (.ref f37) = true)
    (a38 : PySem.W.nsIn K mainGlobals "_law_bag" = some (some (.ref f38)))
    (l38 : K.lookup f38 = some ⟨oc38, od38, .func (PySem.W.fnOf "_law_bag" "_law_bag" (defArgs s_law_bag) (defBody s_law_bag) (defScope s_law_bag) .none kV38 dc38 pm38 an38 cd38 ct38), sl38⟩)
    (e38 : PySem.W.codeIn K cd38 "_law_bag" = true)
    (k38 : PySem.W.keepIn K (.ref f38) = true)
    (a39 : PySem.W.nsIn K mainGlobals "_law_draw" = some (some (.ref f39)))
    (l39 : K.lookup f39 = some ⟨oc39, od39, .func (PySem.W.fnOf "_law_draw" "_law_draw" (defArgs s_law_draw) (defBody s_law_draw) (defScope s_law_draw) .none kV39 dc39 pm39 an39 cd39 ct39), sl39⟩)
    (e39 : PySem.W.codeIn K cd39 "_law_draw" = true)
    (k39 : PySem.W.keepIn K (.ref f39) = true)
    (a40 : PySem.W.nsIn K mainGlobals "_law_at" = some (some (.ref f40)))
    (l40 : K.lookup f40 = some ⟨oc40, od40, .func (PySem.W.fnOf "_law_at" "_law_at" (defArgs s_law_at) (defBody s_law_at) (defScope s_law_at) .none kV40 dc40 pm40 an40 cd40 ct40), sl40⟩)
    (e40 : PySem.W.codeIn K cd40 "_law_at" = true)
    (k40 : PySem.W.keepIn K (.ref f40) = true)
    (a41 : PySem.W.nsIn K mainGlobals "_law_tree_of" = some (some (.ref f41)))
    (l41 : K.lookup f41 = some ⟨oc41, od41, .func (PySem.W.fnOf "_law_tree_of" "_law_tree_of" (defArgs s_law_tree_of) (defBody s_law_tree_of) (defScope s_law_tree_of) .none kV41 dc41 pm41 an41 cd41 ct41), sl41⟩)
    (e41 : PySem.W.codeIn K cd41 "_law_tree_of" = true)
    (k41 : PySem.W.keepIn K (.ref f41) = true)
    (a42 : PySem.W.nsIn K mainGlobals "_law_odd_of" = some (some (.ref f42)))
    (l42 : K.lookup f42 = some ⟨oc42, od42, .func (PySem.W.fnOf "_law_odd_of" "_law_odd_of" (defArgs s_law_odd_of) (defBody s_law_odd_of) (defScope s_law_odd_of) .none kV42 dc42 pm42 an42 cd42 ct42), sl42⟩)
    (e42 : PySem.W.codeIn K cd42 "_law_odd_of" = true)
    (k42 : PySem.W.keepIn K (.ref f42) = true)
    (a43 : PySem.W.nsIn K mainGlobals "_law_pattern_of" = some (some (.ref f43)))
    (l43 : K.lookup f43 = some ⟨oc43, od43, .func (PySem.W.fnOf "_law_pattern_of" "_law_pattern_of" (defArgs s_law_pattern_of) (defBody s_law_pattern_of) (defScope s_law_pattern_of) .none kV43 dc43 pm43 an43 cd43 ct43), sl43⟩)
    (e43 : PySem.W.codeIn K cd43 "_law_pattern_of" = true)
    (k43 : PySem.W.keepIn K (.ref f43) = true)
    (a44 : PySem.W.nsIn K mainGlobals "_law_takes_of" = some (some (.ref f44)))
    (l44 : K.lookup f44 = some ⟨oc44, od44, .func (PySem.W.fnOf "_law_takes_of" "_law_takes_of" (defArgs s_law_takes_of) (defBody s_law_takes_of) (defScope s_law_takes_of) .none kV44 dc44 pm44 an44 cd44 ct44), sl44⟩)
    (e44 : PySem.W.codeIn K cd44 "_law_takes_of" = true)
    (k44 : PySem.W.keepIn K (.ref f44) = true)
    (a45 : PySem.W.nsIn K mainGlobals "law" = some (some (.ref f45)))
    (l45 : K.lookup f45 = some ⟨oc45, od45, .func (PySem.W.fnOf "law" "law" (defArgs s_law) (defBody s_law) (defScope s_law) .none kV45 dc45 pm45 an45 cd45 ct45), sl45⟩)
    (e45 : PySem.W.codeIn K cd45 "law" = true)
    (k45 : PySem.W.keepIn K (.ref f45) = true)
    (z_any : PySem.W.nsIn K mainGlobals "any" = some none)
    (z_bool : PySem.W.nsIn K mainGlobals "bool" = some none)
    (z_dict : PySem.W.nsIn K mainGlobals "dict" = some none)
    (z_enumerate : PySem.W.nsIn K mainGlobals "enumerate" = some none)
    (z_int : PySem.W.nsIn K mainGlobals "int" = some none)
    (z_isinstance : PySem.W.nsIn K mainGlobals "isinstance" = some none)
    (z_len : PySem.W.nsIn K mainGlobals "len" = some none)
    (z_list : PySem.W.nsIn K mainGlobals "list" = some none)
    (z_range : PySem.W.nsIn K mainGlobals "range" = some none)
    (z_set : PySem.W.nsIn K mainGlobals "set" = some none)
    (z_str : PySem.W.nsIn K mainGlobals "str" = some none)
    (z_tuple : PySem.W.nsIn K mainGlobals "tuple" = some none)
    (z_zip : PySem.W.nsIn K mainGlobals "zip" = some none)
    {t_TREES_0 t_TREES_1 t_TREES_2 t_TREES_3 t_TREES_4 t_TREES_5 t_TREES_6 t_TREES_7 t_TREES_8 t_TREES_9 t_TREES_10 t_TREES_11 t_TREES_12 t_TREES_13 t_TREES_14 : Tok} {A_TREES : Addr} {n_TREES : Nat}
    {t_TREES_0_0 t_TREES_0_1 : Tok} {A_TREES_0 : Addr} {dd_TREES_0 : Option Addr} {n_TREES_0 : Nat} {sl_TREES_0 : Array (Option Value)}
    {t_TREES_1_0 : Tok} {A_TREES_1 : Addr} {dd_TREES_1 : Option Addr} {n_TREES_1 : Nat} {sl_TREES_1 : Array (Option Value)}
    {t_TREES_2_0 : Tok} {A_TREES_2 : Addr} {dd_TREES_2 : Option Addr} {n_TREES_2 : Nat} {sl_TREES_2 : Array (Option Value)}
    {t_TREES_3_0 t_TREES_3_1 : Tok} {A_TREES_3 : Addr} {dd_TREES_3 : Option Addr} {n_TREES_3 : Nat} {sl_TREES_3 : Array (Option Value)}
    {t_TREES_4_0 t_TREES_4_1 : Tok} {A_TREES_4 : Addr} {dd_TREES_4 : Option Addr} {n_TREES_4 : Nat} {sl_TREES_4 : Array (Option Value)}
    {t_TREES_5_0 t_TREES_5_1 t_TREES_5_2 : Tok} {A_TREES_5 : Addr} {dd_TREES_5 : Option Addr} {n_TREES_5 : Nat} {sl_TREES_5 : Array (Option Value)}
    {t_TREES_6_0 t_TREES_6_1 t_TREES_6_2 t_TREES_6_3 : Tok} {A_TREES_6 : Addr} {dd_TREES_6 : Option Addr} {n_TREES_6 : Nat} {sl_TREES_6 : Array (Option Value)}
    {t_TREES_7_0 : Tok} {A_TREES_7 : Addr} {dd_TREES_7 : Option Addr} {n_TREES_7 : Nat} {sl_TREES_7 : Array (Option Value)}
    {t_TREES_8_0 t_TREES_8_1 t_TREES_8_2 : Tok} {A_TREES_8 : Addr} {dd_TREES_8 : Option Addr} {n_TREES_8 : Nat} {sl_TREES_8 : Array (Option Value)}
    {t_TREES_9_0 t_TREES_9_1 : Tok} {A_TREES_9 : Addr} {dd_TREES_9 : Option Addr} {n_TREES_9 : Nat} {sl_TREES_9 : Array (Option Value)}
    {t_TREES_10_0 t_TREES_10_1 : Tok} {A_TREES_10 : Addr} {dd_TREES_10 : Option Addr} {n_TREES_10 : Nat} {sl_TREES_10 : Array (Option Value)}
    {t_TREES_11_0 t_TREES_11_1 : Tok} {A_TREES_11 : Addr} {dd_TREES_11 : Option Addr} {n_TREES_11 : Nat} {sl_TREES_11 : Array (Option Value)}
    {t_TREES_12_0 t_TREES_12_1 t_TREES_12_2 : Tok} {A_TREES_12 : Addr} {dd_TREES_12 : Option Addr} {n_TREES_12 : Nat} {sl_TREES_12 : Array (Option Value)}
    {t_TREES_13_0 t_TREES_13_1 : Tok} {A_TREES_13 : Addr} {dd_TREES_13 : Option Addr} {n_TREES_13 : Nat} {sl_TREES_13 : Array (Option Value)}
    {t_TREES_14_0 t_TREES_14_1 : Tok} {A_TREES_14 : Addr} {dd_TREES_14 : Option Addr} {n_TREES_14 : Nat} {sl_TREES_14 : Array (Option Value)}
    (g_TREES : PySem.W.nsIn K mainGlobals "TREES" = some (some (.ref A_TREES)))
    (L_TREES : K.lookup A_TREES = some ⟨.type "dict", none, .dict #[⟨PyData.keyHash w.params "number", .str "number" t_TREES_0, .ref A_TREES_0⟩, ⟨PyData.keyHash w.params "name", .str "name" t_TREES_1, .ref A_TREES_1⟩, ⟨PyData.keyHash w.params "fail", .str "fail" t_TREES_2, .ref A_TREES_2⟩, ⟨PyData.keyHash w.params "fn", .str "fn" t_TREES_3, .ref A_TREES_3⟩, ⟨PyData.keyHash w.params "call", .str "call" t_TREES_4, .ref A_TREES_4⟩, ⟨PyData.keyHash w.params "let", .str "let" t_TREES_5, .ref A_TREES_5⟩, ⟨PyData.keyHash w.params "rec", .str "rec" t_TREES_6, .ref A_TREES_6⟩, ⟨PyData.keyHash w.params "record", .str "record" t_TREES_7, .ref A_TREES_7⟩, ⟨PyData.keyHash w.params "with", .str "with" t_TREES_8, .ref A_TREES_8⟩, ⟨PyData.keyHash w.params "field", .str "field" t_TREES_9, .ref A_TREES_9⟩, ⟨PyData.keyHash w.params "tag", .str "tag" t_TREES_10, .ref A_TREES_10⟩, ⟨PyData.keyHash w.params "match", .str "match" t_TREES_11, .ref A_TREES_11⟩, ⟨PyData.keyHash w.params "op", .str "op" t_TREES_12, .ref A_TREES_12⟩, ⟨PyData.keyHash w.params "told", .str "told" t_TREES_13, .ref A_TREES_13⟩, ⟨PyData.keyHash w.params "macro", .str "macro" t_TREES_14, .ref A_TREES_14⟩] n_TREES, #[]⟩)
    (lo_TREES : (A_TREES == sysModules) = false)
    (L_TREES_0 : K.lookup A_TREES_0 = some ⟨.type "tuple", dd_TREES_0, .seq #[.str "count" t_TREES_0_0, .str "unit" t_TREES_0_1] n_TREES_0, sl_TREES_0⟩)
    (L_TREES_1 : K.lookup A_TREES_1 = some ⟨.type "tuple", dd_TREES_1, .seq #[.str "word" t_TREES_1_0] n_TREES_1, sl_TREES_1⟩)
    (L_TREES_2 : K.lookup A_TREES_2 = some ⟨.type "tuple", dd_TREES_2, .seq #[.str "word" t_TREES_2_0] n_TREES_2, sl_TREES_2⟩)
    (L_TREES_3 : K.lookup A_TREES_3 = some ⟨.type "tuple", dd_TREES_3, .seq #[.str "word" t_TREES_3_0, .str "tree" t_TREES_3_1] n_TREES_3, sl_TREES_3⟩)
    (L_TREES_4 : K.lookup A_TREES_4 = some ⟨.type "tuple", dd_TREES_4, .seq #[.str "tree" t_TREES_4_0, .str "tree" t_TREES_4_1] n_TREES_4, sl_TREES_4⟩)
    (L_TREES_5 : K.lookup A_TREES_5 = some ⟨.type "tuple", dd_TREES_5, .seq #[.str "word" t_TREES_5_0, .str "tree" t_TREES_5_1, .str "tree" t_TREES_5_2] n_TREES_5, sl_TREES_5⟩)
    (L_TREES_6 : K.lookup A_TREES_6 = some ⟨.type "tuple", dd_TREES_6, .seq #[.str "word" t_TREES_6_0, .str "word" t_TREES_6_1, .str "tree" t_TREES_6_2, .str "tree" t_TREES_6_3] n_TREES_6, sl_TREES_6⟩)
    (L_TREES_7 : K.lookup A_TREES_7 = some ⟨.type "tuple", dd_TREES_7, .seq #[.str "entries" t_TREES_7_0] n_TREES_7, sl_TREES_7⟩)
    (L_TREES_8 : K.lookup A_TREES_8 = some ⟨.type "tuple", dd_TREES_8, .seq #[.str "tree" t_TREES_8_0, .str "word" t_TREES_8_1, .str "tree" t_TREES_8_2] n_TREES_8, sl_TREES_8⟩)
    (L_TREES_9 : K.lookup A_TREES_9 = some ⟨.type "tuple", dd_TREES_9, .seq #[.str "tree" t_TREES_9_0, .str "word" t_TREES_9_1] n_TREES_9, sl_TREES_9⟩)
    (L_TREES_10 : K.lookup A_TREES_10 = some ⟨.type "tuple", dd_TREES_10, .seq #[.str "tag" t_TREES_10_0, .str "tree" t_TREES_10_1] n_TREES_10, sl_TREES_10⟩)
    (L_TREES_11 : K.lookup A_TREES_11 = some ⟨.type "tuple", dd_TREES_11, .seq #[.str "tree" t_TREES_11_0, .str "rows" t_TREES_11_1] n_TREES_11, sl_TREES_11⟩)
    (L_TREES_12 : K.lookup A_TREES_12 = some ⟨.type "tuple", dd_TREES_12, .seq #[.str "sign" t_TREES_12_0, .str "tree" t_TREES_12_1, .str "tree" t_TREES_12_2] n_TREES_12, sl_TREES_12⟩)
    (L_TREES_13 : K.lookup A_TREES_13 = some ⟨.type "tuple", dd_TREES_13, .seq #[.str "tree" t_TREES_13_0, .str "kind" t_TREES_13_1] n_TREES_13, sl_TREES_13⟩)
    (L_TREES_14 : K.lookup A_TREES_14 = some ⟨.type "tuple", dd_TREES_14, .seq #[.str "plain" t_TREES_14_0, .str "trees" t_TREES_14_1] n_TREES_14, sl_TREES_14⟩)
    {t_PATTERNS_0 t_PATTERNS_1 t_PATTERNS_2 t_PATTERNS_3 : Tok} {A_PATTERNS : Addr} {n_PATTERNS : Nat}
    {A_PATTERNS_0 : Addr} {dd_PATTERNS_0 : Option Addr} {n_PATTERNS_0 : Nat} {sl_PATTERNS_0 : Array (Option Value)}
    {t_PATTERNS_1_0 : Tok} {A_PATTERNS_1 : Addr} {dd_PATTERNS_1 : Option Addr} {n_PATTERNS_1 : Nat} {sl_PATTERNS_1 : Array (Option Value)}
    {t_PATTERNS_2_0 t_PATTERNS_2_1 : Tok} {A_PATTERNS_2 : Addr} {dd_PATTERNS_2 : Option Addr} {n_PATTERNS_2 : Nat} {sl_PATTERNS_2 : Array (Option Value)}
    {t_PATTERNS_3_0 : Tok} {A_PATTERNS_3 : Addr} {dd_PATTERNS_3 : Option Addr} {n_PATTERNS_3 : Nat} {sl_PATTERNS_3 : Array (Option Value)}
    (g_PATTERNS : PySem.W.nsIn K mainGlobals "PATTERNS" = some (some (.ref A_PATTERNS)))
    (L_PATTERNS : K.lookup A_PATTERNS = some ⟨.type "dict", none, .dict #[⟨PyData.keyHash w.params "any", .str "any" t_PATTERNS_0, .ref A_PATTERNS_0⟩, ⟨PyData.keyHash w.params "bind", .str "bind" t_PATTERNS_1, .ref A_PATTERNS_1⟩, ⟨PyData.keyHash w.params "tag", .str "tag" t_PATTERNS_2, .ref A_PATTERNS_2⟩, ⟨PyData.keyHash w.params "record", .str "record" t_PATTERNS_3, .ref A_PATTERNS_3⟩] n_PATTERNS, #[]⟩)
    (lo_PATTERNS : (A_PATTERNS == sysModules) = false)
    (L_PATTERNS_0 : K.lookup A_PATTERNS_0 = some ⟨.type "tuple", dd_PATTERNS_0, .seq #[] n_PATTERNS_0, sl_PATTERNS_0⟩)
    (L_PATTERNS_1 : K.lookup A_PATTERNS_1 = some ⟨.type "tuple", dd_PATTERNS_1, .seq #[.str "word" t_PATTERNS_1_0] n_PATTERNS_1, sl_PATTERNS_1⟩)
    (L_PATTERNS_2 : K.lookup A_PATTERNS_2 = some ⟨.type "tuple", dd_PATTERNS_2, .seq #[.str "tag" t_PATTERNS_2_0, .str "tree" t_PATTERNS_2_1] n_PATTERNS_2, sl_PATTERNS_2⟩)
    (L_PATTERNS_3 : K.lookup A_PATTERNS_3 = some ⟨.type "tuple", dd_PATTERNS_3, .seq #[.str "entries" t_PATTERNS_3_0] n_PATTERNS_3, sl_PATTERNS_3⟩)
    {t_SPANS_0 t_SPANS_1 t_SPANS_2 t_SPANS_3 t_SPANS_4 t_SPANS_5 t_SPANS_6 t_SPANS_7 t_SPANS_8 t_SPANS_9 t_SPANS_10 t_SPANS_11 t_SPANS_12 : Tok} {A_SPANS : Addr} {n_SPANS : Nat}
    {t_SPANS_0_0 t_SPANS_0_1 : Tok} {A_SPANS_0 : Addr} {dd_SPANS_0 : Option Addr} {n_SPANS_0 : Nat} {sl_SPANS_0 : Array (Option Value)}
    {t_SPANS_1_0 t_SPANS_1_1 : Tok} {A_SPANS_1 : Addr} {dd_SPANS_1 : Option Addr} {n_SPANS_1 : Nat} {sl_SPANS_1 : Array (Option Value)}
    {t_SPANS_2_0 t_SPANS_2_1 : Tok} {A_SPANS_2 : Addr} {dd_SPANS_2 : Option Addr} {n_SPANS_2 : Nat} {sl_SPANS_2 : Array (Option Value)}
    {t_SPANS_3_0 t_SPANS_3_1 : Tok} {A_SPANS_3 : Addr} {dd_SPANS_3 : Option Addr} {n_SPANS_3 : Nat} {sl_SPANS_3 : Array (Option Value)}
    {t_SPANS_4_0 t_SPANS_4_1 : Tok} {A_SPANS_4 : Addr} {dd_SPANS_4 : Option Addr} {n_SPANS_4 : Nat} {sl_SPANS_4 : Array (Option Value)}
    {t_SPANS_5_0 t_SPANS_5_1 : Tok} {A_SPANS_5 : Addr} {dd_SPANS_5 : Option Addr} {n_SPANS_5 : Nat} {sl_SPANS_5 : Array (Option Value)}
    {t_SPANS_6_0 t_SPANS_6_1 : Tok} {A_SPANS_6 : Addr} {dd_SPANS_6 : Option Addr} {n_SPANS_6 : Nat} {sl_SPANS_6 : Array (Option Value)}
    {t_SPANS_7_0 t_SPANS_7_1 : Tok} {A_SPANS_7 : Addr} {dd_SPANS_7 : Option Addr} {n_SPANS_7 : Nat} {sl_SPANS_7 : Array (Option Value)}
    {t_SPANS_8_0 t_SPANS_8_1 : Tok} {A_SPANS_8 : Addr} {dd_SPANS_8 : Option Addr} {n_SPANS_8 : Nat} {sl_SPANS_8 : Array (Option Value)}
    {t_SPANS_9_0 t_SPANS_9_1 : Tok} {A_SPANS_9 : Addr} {dd_SPANS_9 : Option Addr} {n_SPANS_9 : Nat} {sl_SPANS_9 : Array (Option Value)}
    {t_SPANS_10_0 t_SPANS_10_1 : Tok} {A_SPANS_10 : Addr} {dd_SPANS_10 : Option Addr} {n_SPANS_10 : Nat} {sl_SPANS_10 : Array (Option Value)}
    {t_SPANS_11_0 t_SPANS_11_1 : Tok} {A_SPANS_11 : Addr} {dd_SPANS_11 : Option Addr} {n_SPANS_11 : Nat} {sl_SPANS_11 : Array (Option Value)}
    {t_SPANS_12_0 t_SPANS_12_1 : Tok} {A_SPANS_12 : Addr} {dd_SPANS_12 : Option Addr} {n_SPANS_12 : Nat} {sl_SPANS_12 : Array (Option Value)}
    (g_SPANS : PySem.W.nsIn K mainGlobals "SPANS" = some (some (.ref A_SPANS)))
    (L_SPANS : K.lookup A_SPANS = some ⟨.type "dict", none, .dict #[⟨PyData.keyHash w.params "number", .str "number" t_SPANS_0, .ref A_SPANS_0⟩, ⟨PyData.keyHash w.params "name", .str "name" t_SPANS_1, .ref A_SPANS_1⟩, ⟨PyData.keyHash w.params "fail", .str "fail" t_SPANS_2, .ref A_SPANS_2⟩, ⟨PyData.keyHash w.params "any", .str "any" t_SPANS_3, .ref A_SPANS_3⟩, ⟨PyData.keyHash w.params "bind", .str "bind" t_SPANS_4, .ref A_SPANS_4⟩, ⟨PyData.keyHash w.params "fn", .str "fn" t_SPANS_5, .ref A_SPANS_5⟩, ⟨PyData.keyHash w.params "call", .str "call" t_SPANS_6, .ref A_SPANS_6⟩, ⟨PyData.keyHash w.params "let", .str "let" t_SPANS_7, .ref A_SPANS_7⟩, ⟨PyData.keyHash w.params "rec", .str "rec" t_SPANS_8, .ref A_SPANS_8⟩, ⟨PyData.keyHash w.params "field", .str "field" t_SPANS_9, .ref A_SPANS_9⟩, ⟨PyData.keyHash w.params "tag", .str "tag" t_SPANS_10, .ref A_SPANS_10⟩, ⟨PyData.keyHash w.params "op", .str "op" t_SPANS_11, .ref A_SPANS_11⟩, ⟨PyData.keyHash w.params "told", .str "told" t_SPANS_12, .ref A_SPANS_12⟩] n_SPANS, #[]⟩)
    (lo_SPANS : (A_SPANS == sysModules) = false)
    (L_SPANS_0 : K.lookup A_SPANS_0 = some ⟨.type "tuple", dd_SPANS_0, .seq #[.int 3 t_SPANS_0_0, .int 3 t_SPANS_0_1] n_SPANS_0, sl_SPANS_0⟩)
    (L_SPANS_1 : K.lookup A_SPANS_1 = some ⟨.type "tuple", dd_SPANS_1, .seq #[.int 2 t_SPANS_1_0, .int 2 t_SPANS_1_1] n_SPANS_1, sl_SPANS_1⟩)
    (L_SPANS_2 : K.lookup A_SPANS_2 = some ⟨.type "tuple", dd_SPANS_2, .seq #[.int 2 t_SPANS_2_0, .int 2 t_SPANS_2_1] n_SPANS_2, sl_SPANS_2⟩)
    (L_SPANS_3 : K.lookup A_SPANS_3 = some ⟨.type "tuple", dd_SPANS_3, .seq #[.int 1 t_SPANS_3_0, .int 1 t_SPANS_3_1] n_SPANS_3, sl_SPANS_3⟩)
    (L_SPANS_4 : K.lookup A_SPANS_4 = some ⟨.type "tuple", dd_SPANS_4, .seq #[.int 2 t_SPANS_4_0, .int 2 t_SPANS_4_1] n_SPANS_4, sl_SPANS_4⟩)
    (L_SPANS_5 : K.lookup A_SPANS_5 = some ⟨.type "tuple", dd_SPANS_5, .seq #[.int 2 t_SPANS_5_0, .int 3 t_SPANS_5_1] n_SPANS_5, sl_SPANS_5⟩)
    (L_SPANS_6 : K.lookup A_SPANS_6 = some ⟨.type "tuple", dd_SPANS_6, .seq #[.int 1 t_SPANS_6_0, .int 3 t_SPANS_6_1] n_SPANS_6, sl_SPANS_6⟩)
    (L_SPANS_7 : K.lookup A_SPANS_7 = some ⟨.type "tuple", dd_SPANS_7, .seq #[.int 2 t_SPANS_7_0, .int 4 t_SPANS_7_1] n_SPANS_7, sl_SPANS_7⟩)
    (L_SPANS_8 : K.lookup A_SPANS_8 = some ⟨.type "tuple", dd_SPANS_8, .seq #[.int 3 t_SPANS_8_0, .int 5 t_SPANS_8_1] n_SPANS_8, sl_SPANS_8⟩)
    (L_SPANS_9 : K.lookup A_SPANS_9 = some ⟨.type "tuple", dd_SPANS_9, .seq #[.int 1 t_SPANS_9_0, .int 2 t_SPANS_9_1] n_SPANS_9, sl_SPANS_9⟩)
    (L_SPANS_10 : K.lookup A_SPANS_10 = some ⟨.type "tuple", dd_SPANS_10, .seq #[.int 2 t_SPANS_10_0, .int 3 t_SPANS_10_1] n_SPANS_10, sl_SPANS_10⟩)
    (L_SPANS_11 : K.lookup A_SPANS_11 = some ⟨.type "tuple", dd_SPANS_11, .seq #[.int 2 t_SPANS_11_0, .int 4 t_SPANS_11_1] n_SPANS_11, sl_SPANS_11⟩)
    (L_SPANS_12 : K.lookup A_SPANS_12 = some ⟨.type "tuple", dd_SPANS_12, .seq #[.int 1 t_SPANS_12_0, .int 2 t_SPANS_12_1] n_SPANS_12, sl_SPANS_12⟩)
    {t_LEAVES_0 t_LEAVES_1 t_LEAVES_2 t_LEAVES_3 t_LEAVES_4 : Tok} {A_LEAVES : Addr} {n_LEAVES : Nat}
    (g_LEAVES : PySem.W.nsIn K mainGlobals "LEAVES" = some (some (.ref A_LEAVES)))
    (L_LEAVES : K.lookup A_LEAVES = some ⟨.type "dict", none, .dict #[⟨PyData.keyHash w.params "number", .str "number" t_LEAVES_0, .bool true⟩, ⟨PyData.keyHash w.params "name", .str "name" t_LEAVES_1, .bool true⟩, ⟨PyData.keyHash w.params "fail", .str "fail" t_LEAVES_2, .bool true⟩, ⟨PyData.keyHash w.params "any", .str "any" t_LEAVES_3, .bool true⟩, ⟨PyData.keyHash w.params "bind", .str "bind" t_LEAVES_4, .bool true⟩] n_LEAVES, #[]⟩)
    (lo_LEAVES : (A_LEAVES == sysModules) = false)
    {t_OWN_WORDS_0 t_OWN_WORDS_1 t_OWN_WORDS_2 t_OWN_WORDS_3 t_OWN_WORDS_4 t_OWN_WORDS_5 t_OWN_WORDS_6 t_OWN_WORDS_7 : Tok} {A_OWN_WORDS : Addr} {n_OWN_WORDS : Nat}
    (g_OWN_WORDS : PySem.W.nsIn K mainGlobals "OWN_WORDS" = some (some (.ref A_OWN_WORDS)))
    (L_OWN_WORDS : K.lookup A_OWN_WORDS = some ⟨.type "dict", none, .dict #[⟨PyData.keyHash w.params "fn", .str "fn" t_OWN_WORDS_0, .bool true⟩, ⟨PyData.keyHash w.params "let", .str "let" t_OWN_WORDS_1, .bool true⟩, ⟨PyData.keyHash w.params "in", .str "in" t_OWN_WORDS_2, .bool true⟩, ⟨PyData.keyHash w.params "rec", .str "rec" t_OWN_WORDS_3, .bool true⟩, ⟨PyData.keyHash w.params "match", .str "match" t_OWN_WORDS_4, .bool true⟩, ⟨PyData.keyHash w.params "with", .str "with" t_OWN_WORDS_5, .bool true⟩, ⟨PyData.keyHash w.params "fail", .str "fail" t_OWN_WORDS_6, .bool true⟩, ⟨PyData.keyHash w.params "num", .str "num" t_OWN_WORDS_7, .bool true⟩] n_OWN_WORDS, #[]⟩)
    (lo_OWN_WORDS : (A_OWN_WORDS == sysModules) = false)
    {t_SMALL_LETTERS : Tok}
    (g_SMALL_LETTERS : PySem.W.nsIn K mainGlobals "SMALL_LETTERS" = some (some (.str "abcdefghijklmnopqrstuvwxyz" t_SMALL_LETTERS)))
    {t_CAPITALS : Tok}
    (g_CAPITALS : PySem.W.nsIn K mainGlobals "CAPITALS" = some (some (.str "ABCDEFGHIJKLMNOPQRSTUVWXYZ" t_CAPITALS)))
    {t_DIGITS : Tok}
    (g_DIGITS : PySem.W.nsIn K mainGlobals "DIGITS" = some (some (.str "0123456789" t_DIGITS)))
    {t_SIGNS_0 t_SIGNS_1 t_SIGNS_2 t_SIGNS_3 t_SIGNS_4 : Tok} {A_SIGNS : Addr} {dd_SIGNS : Option Addr} {n_SIGNS : Nat} {sl_SIGNS : Array (Option Value)}
    (g_SIGNS : PySem.W.nsIn K mainGlobals "SIGNS" = some (some (.ref A_SIGNS)))
    (L_SIGNS : K.lookup A_SIGNS = some ⟨.type "tuple", dd_SIGNS, .seq #[.str "+" t_SIGNS_0, .str "-" t_SIGNS_1, .str "*" t_SIGNS_2, .str "/" t_SIGNS_3, .str "<" t_SIGNS_4] n_SIGNS, sl_SIGNS⟩)
    (g_gcd : PySem.W.nsIn K mainGlobals "gcd" = some (some (.builtin "math.gcd")))
    (cn : PySem.W.specialIn K (.builtin "object.__class__") "__get__" = some (some (.builtin "getset_descriptor.__get__")))
    (ct : PySem.W.takesIn K (.builtin "object.__class__") = some true)
    (x_ByZero : PySem.W.excIn K C_ByZero [.type "ValueError", .type "Exception", .type "BaseException", .type "object"] "ValueError.__new__" = true)
    (k_ByZero : PySem.W.keepIn K (.ref C_ByZero) = true)
    (b_ByZero : PySem.W.subIn K (.ref C_ByZero) (.type "BaseException") = some true)
    (t_ByZero : PySem.W.typeIn K (.ref C_ByZero) = some (.type "type"))
    (i_ByZero : PySem.W.isClsIn K C_ByZero = true)
    (sC_ByZero : PySem.W.subIn K (.ref C_ByZero) (.ref C_ByZero) = some true)
    (c1_Ratio : PySem.W.plainGet K C_Ratio Str.empty = true)
    (c2_Ratio : PySem.W.hasDictIn K C_Ratio = true)
    (c3_Ratio : PySem.W.plainOver K C_Ratio = true)
    (c4_Ratio : PySem.W.findIn K (.ref C_Ratio) "__setattr__" = some (some (.builtin "object.__setattr__")))
    (mk1_Ratio : PySem.W.makesIn K C_Ratio = true)
    (mk2_Ratio : PySem.W.isFn K (.ref f15) = true)
    (mk3_Ratio : PySem.W.keepIn K (.ref C_Ratio) = true)
    (ca_Ratio : PySem.W.findIn K (.ref C_Ratio) "__class__" = some (some (.builtin "object.__class__")))
    (cm_Ratio : PySem.W.mroIn K C_Ratio (.type "object") = some true)
    (sf_Ratio : PySem.W.selfFirst K C_Ratio = true)
    (sub_Ratio : PySem.W.subIn K (.type "int") (.ref C_Ratio) = some false)
    (iC_Ratio : PySem.W.isClsIn K C_Ratio = true)
    (tC_Ratio : PySem.W.typeIn K (.ref C_Ratio) = some (.type "type"))
    (nf_Ratio_int : PySem.W.notFirst K C_Ratio (.type "int") = true)
    (ki_Ratio_int : PySem.W.subIn K (.type "int") (.ref C_Ratio) = some false)
    (nf_Ratio_bool : PySem.W.notFirst K C_Ratio (.type "bool") = true)
    (ki_Ratio_bool : PySem.W.subIn K (.type "bool") (.ref C_Ratio) = some false)
    (nf_Ratio_NoneType : PySem.W.notFirst K C_Ratio (.type "NoneType") = true)
    (ki_Ratio_NoneType : PySem.W.subIn K (.type "NoneType") (.ref C_Ratio) = some false)
    (nf_Ratio_str : PySem.W.notFirst K C_Ratio (.type "str") = true)
    (ki_Ratio_str : PySem.W.subIn K (.type "str") (.ref C_Ratio) = some false)
    (nf_Ratio_tuple : PySem.W.notFirst K C_Ratio (.type "tuple") = true)
    (ki_Ratio_tuple : PySem.W.subIn K (.type "tuple") (.ref C_Ratio) = some false)
    (nf_Ratio_list : PySem.W.notFirst K C_Ratio (.type "list") = true)
    (ki_Ratio_list : PySem.W.subIn K (.type "list") (.ref C_Ratio) = some false)
    (nf_Ratio_dict : PySem.W.notFirst K C_Ratio (.type "dict") = true)
    (ki_Ratio_dict : PySem.W.subIn K (.type "dict") (.ref C_Ratio) = some false)
    (so_Ratio_tuple : PySem.W.subIn K (.ref C_Ratio) (.type "tuple") = some false)
    (so_Ratio_str : PySem.W.subIn K (.ref C_Ratio) (.type "str") = some false)
    (so_Ratio_int : PySem.W.subIn K (.ref C_Ratio) (.type "int") = some false)
    (so_Ratio_bool : PySem.W.subIn K (.ref C_Ratio) (.type "bool") = some false)
    (na_Ratio_top : PySem.W.findIn K (.ref C_Ratio) "_top" = some none)
    (na_Ratio_bottom : PySem.W.findIn K (.ref C_Ratio) "_bottom" = some none)
    (fn_Ratio_init : PySem.W.isFn K (.ref f15) = true)
    : ∃ fd : FuncData, (∀ (s : Shared) (v : Value), BindsTo s fd ⟨[v], []⟩ [("script", v)]) ∧ ∀ base : Heap, K.In base → base.Ns mainGlobals mg → FnOk l.prog w K mg base CX0 15 fa fd ["script"] (spLaw K) := by
  have e := hfa.symm.trans (PySem.W.mg_of X G a45)
  cases e
  have F0 := fun_mk (st := s_is_row) l0 e0 k0
  have b0 := F0.binds (ps := ["part"]) fun _ _ _ _ _ _ us hl => match us, hl with | [_], _ => rfl
  have F1 := fun_mk (st := s_parts_in) l1 e1 k1
  have b1 := F1.binds (ps := ["part"]) fun _ _ _ _ _ _ us hl => match us, hl with | [_], _ => rfl
  have F2 := fun_mk (st := s_parts_of) l2 e2 k2
  have b2 := F2.binds (ps := ["part"]) fun _ _ _ _ _ _ us hl => match us, hl with | [_], _ => rfl
  have F3 := fun_mk (st := s_inner_numbers) l3 e3 k3
  have b3 := F3.binds (ps := ["steps"]) fun _ _ _ _ _ _ us hl => match us, hl with | [_], _ => rfl
  have F4 := fun_mk (st := s_is_name) l4 e4 k4
  have b4 := F4.binds (ps := ["factor"]) fun _ _ _ _ _ _ us hl => match us, hl with | [_], _ => rfl
  have F5 := fun_mk (st := s_uses_and_owns) l5 e5 k5
  have b5 := F5.binds (ps := ["kind"]) fun _ _ _ _ _ _ us hl => match us, hl with | [_], _ => rfl
  have F6 := fun_mk (st := s_uses_in) l6 e6 k6
  have b6 := F6.binds (ps := ["kind"]) fun _ _ _ _ _ _ us hl => match us, hl with | [_], _ => rfl
  have F7 := fun_mk (st := s_run_end) l7 e7 k7
  have b7 := F7.binds (ps := ["text", "begin", "signs", "most"]) fun _ _ _ _ _ _ us hl => match us, hl with | [_, _, _, _], _ => rfl
  have F8 := fun_mk (st := s_word_end) l8 e8 k8
  have b8 := F8.binds (ps := ["text", "begin"]) fun _ _ _ _ _ _ us hl => match us, hl with | [_, _], _ => rfl
  have F9 := fun_mk (st := s_tag_end) l9 e9 k9
  have b9 := F9.binds (ps := ["text", "begin"]) fun _ _ _ _ _ _ us hl => match us, hl with | [_, _], _ => rfl
  have F10 := fun_mk (st := s_is_word) l10 e10 k10
  have b10 := F10.binds (ps := ["value"]) fun _ _ _ _ _ _ us hl => match us, hl with | [_], _ => rfl
  have F11 := fun_mk (st := s_is_plain_word) l11 e11 k11
  have b11 := F11.binds (ps := ["value"]) fun _ _ _ _ _ _ us hl => match us, hl with | [_], _ => rfl
  have F12 := fun_mk (st := s_is_tag) l12 e12 k12
  have b12 := F12.binds (ps := ["value"]) fun _ _ _ _ _ _ us hl => match us, hl with | [_], _ => rfl
  have F13 := fun_mk (st := s_is_kind_name) l13 e13 k13
  have b13 := F13.binds (ps := ["value"]) fun _ _ _ _ _ _ us hl => match us, hl with | [_], _ => rfl
  have F14 := fun_mk (st := s_is_integer) l14 e14 k14
  have b14 := F14.binds (ps := ["value"]) fun _ _ _ _ _ _ us hl => match us, hl with | [_], _ => rfl
  have F15 : FunD K "__init__" "Ratio.__init__" (defArgs s_Ratio_init) (defBody s_Ratio_init) (defScope s_Ratio_init) [.int 1] [] f15 (PySem.W.fnOf "__init__" "Ratio.__init__" (defArgs s_Ratio_init) (defBody s_Ratio_init) (defScope s_Ratio_init) (.ref D15) kV15 dc15 pm15 an15 cd15 ct15) := ⟨⟨_, _, _, _, _, _, _, _, _, _, rfl, l15, e15, Or.inr ⟨by simp, _, _, _, _, rfl, ld15, rfl, (.cons ⟨_, rfl⟩ .nil)⟩, Or.inl rfl⟩, k15⟩
  have b15 := bindsAll (ps := ["self", "top", "bottom"]) F15 (by simp) (fun _ _ _ _ _ _ _ us its hl _ => match us, its, hl with | [_, _, _], [_], _ => ⟨_, rfl, rfl⟩)
  have F16 := fun_mk (st := s_is_factor) l16 e16 k16
  have b16 := F16.binds (ps := ["value"]) fun _ _ _ _ _ _ us hl => match us, hl with | [_], _ => rfl
  have F17 := fun_mk (st := s_is_measure) l17 e17 k17
  have b17 := F17.binds (ps := ["value"]) fun _ _ _ _ _ _ us hl => match us, hl with | [_], _ => rfl
  have F18 := fun_mk (st := s_first_stray) l18 e18 k18
  have b18 := F18.binds (ps := ["uses"]) fun _ _ _ _ _ _ us hl => match us, hl with | [_], _ => rfl
  have F19 := fun_mk (st := s_row_kinds) l19 e19 k19
  have b19 := F19.binds (ps := ["head", "value"]) fun _ _ _ _ _ _ us hl => match us, hl with | [_, _], _ => rfl
  have F20 := fun_mk (st := s_inner_values) l20 e20 k20
  have b20 := F20.binds (ps := ["value"]) fun _ _ _ _ _ _ us hl => match us, hl with | [_], _ => rfl
  have F21 := fun_mk (st := s_is_built_kind) l21 e21 k21
  have b21 := F21.binds (ps := ["value"]) fun _ _ _ _ _ _ us hl => match us, hl with | [_], _ => rfl
  have F22 := fun_mk (st := s_is_kind) l22 e22 k22
  have b22 := F22.binds (ps := ["value"]) fun _ _ _ _ _ _ us hl => match us, hl with | [_], _ => rfl
  have F23 := fun_mk (st := s_is_unit) l23 e23 k23
  have b23 := F23.binds (ps := ["value"]) fun _ _ _ _ _ _ us hl => match us, hl with | [_], _ => rfl
  have F24 := fun_mk (st := s_are_entries) l24 e24 k24
  have b24 := F24.binds (ps := ["value"]) fun _ _ _ _ _ _ us hl => match us, hl with | [_], _ => rfl
  have F25 := fun_mk (st := s_are_rows) l25 e25 k25
  have b25 := F25.binds (ps := ["value"]) fun _ _ _ _ _ _ us hl => match us, hl with | [_], _ => rfl
  have F26 := fun_mk (st := s_is_of) l26 e26 k26
  have b26 := F26.binds (ps := ["value", "sort"]) fun _ _ _ _ _ _ us hl => match us, hl with | [_, _], _ => rfl
  have F27 := fun_mk (st := s_fits_shape) l27 e27 k27
  have b27 := F27.binds (ps := ["value", "shape"]) fun _ _ _ _ _ _ us hl => match us, hl with | [_, _], _ => rfl
  have F28 := fun_mk (st := s_shaped) l28 e28 k28
  have b28 := F28.binds (ps := ["value", "patterns"]) fun _ _ _ _ _ _ us hl => match us, hl with | [_, _], _ => rfl
  have F29 := fun_mk (st := s_is_tree) l29 e29 k29
  have b29 := F29.binds (ps := ["value"]) fun _ _ _ _ _ _ us hl => match us, hl with | [_], _ => rfl
  have F30 := fun_mk (st := s_is_pattern) l30 e30 k30
  have b30 := F30.binds (ps := ["value"]) fun _ _ _ _ _ _ us hl => match us, hl with | [_], _ => rfl
  have F31 := fun_mk (st := s_scopes_in) l31 e31 k31
  have b31 := F31.binds (ps := ["steps", "inner"]) fun _ _ _ _ _ _ us hl => match us, hl with | [_, _], _ => rfl
  have F32 := fun_mk (st := s_marks_in) l32 e32 k32
  have b32 := F32.binds (ps := ["steps", "inner"]) fun _ _ _ _ _ _ us hl => match us, hl with | [_, _], _ => rfl
  have F33 := fun_mk (st := s_binder_marks) l33 e33 k33
  have b33 := F33.binds (ps := ["tree"]) fun _ _ _ _ _ _ us hl => match us, hl with | [_], _ => rfl
  have F34 := fun_mk (st := s_binder_numbers) l34 e34 k34
  have b34 := F34.binds (ps := ["tree"]) fun _ _ _ _ _ _ us hl => match us, hl with | [_], _ => rfl
  have F35 := fun_mk (st := s_takes) l35 e35 k35
  have b35 := F35.binds (ps := ["pattern", "tree"]) fun _ _ _ _ _ _ us hl => match us, hl with | [_, _], _ => rfl
  have F36 := fun_mk (st := s_is_value_shape) l36 e36 k36
  have b36 := F36.binds (ps := ["tree"]) fun _ _ _ _ _ _ us hl => match us, hl with | [_], _ => rfl
  have F37 := fun_mk (st := s_is_value_tree) l37 e37 k37
  have b37 := F37.binds (ps := ["value"]) fun _ _ _ _ _ _ us hl => match us, hl with | [_], _ => rfl
  have F38 := fun_mk (st := s_law_bag) l38 e38 k38
  have b38 := F38.binds (ps := ["cell"]) fun _ _ _ _ _ _ us hl => match us, hl with | [_], _ => rfl
  have F39 := fun_mk (st := s_law_draw) l39 e39 k39
  have b39 := F39.binds (ps := ["pool", "limit"]) fun _ _ _ _ _ _ us hl => match us, hl with | [_, _], _ => rfl
  have F40 := fun_mk (st := s_law_at) l40 e40 k40
  have b40 := F40.binds (ps := ["script", "k"]) fun _ _ _ _ _ _ us hl => match us, hl with | [_, _], _ => rfl
  have F41 := fun_mk (st := s_law_tree_of) l41 e41 k41
  have b41 := F41.binds (ps := ["pool", "deep"]) fun _ _ _ _ _ _ us hl => match us, hl with | [_, _], _ => rfl
  have F42 := fun_mk (st := s_law_odd_of) l42 e42 k42
  have b42 := F42.binds (ps := ["pool", "deep"]) fun _ _ _ _ _ _ us hl => match us, hl with | [_, _], _ => rfl
  have F43 := fun_mk (st := s_law_pattern_of) l43 e43 k43
  have b43 := F43.binds (ps := ["pool", "tree", "words"]) fun _ _ _ _ _ _ us hl => match us, hl with | [_, _, _], _ => rfl
  have F44 := fun_mk (st := s_law_takes_of) l44 e44 k44
  have b44 := F44.binds (ps := ["pattern", "value"]) fun _ _ _ _ _ _ us hl => match us, hl with | [_, _], _ => rfl
  have F45 := fun_mk (st := s_law) l45 e45 k45
  have b45 := F45.binds (ps := ["script"]) fun _ _ _ _ _ _ us hl => match us, hl with | [_], _ => rfl
  have T : Top w K mg {
    a_is_row := f0, fd_is_row := (PySem.W.fnOf "is_row" "is_row" (defArgs s_is_row) (defBody s_is_row) (defScope s_is_row) .none kV0 dc0 pm0 an0 cd0 ct0),
    a_parts_in := f1, fd_parts_in := (PySem.W.fnOf "parts_in" "parts_in" (defArgs s_parts_in) (defBody s_parts_in) (defScope s_parts_in) .none kV1 dc1 pm1 an1 cd1 ct1),
    a_parts_of := f2, fd_parts_of := (PySem.W.fnOf "parts_of" "parts_of" (defArgs s_parts_of) (defBody s_parts_of) (defScope s_parts_of) .none kV2 dc2 pm2 an2 cd2 ct2),
    a_inner_numbers := f3, fd_inner_numbers := (PySem.W.fnOf "inner_numbers" "inner_numbers" (defArgs s_inner_numbers) (defBody s_inner_numbers) (defScope s_inner_numbers) .none kV3 dc3 pm3 an3 cd3 ct3),
    a_is_name := f4, fd_is_name := (PySem.W.fnOf "is_name" "is_name" (defArgs s_is_name) (defBody s_is_name) (defScope s_is_name) .none kV4 dc4 pm4 an4 cd4 ct4),
    a_uses_and_owns := f5, fd_uses_and_owns := (PySem.W.fnOf "uses_and_owns" "uses_and_owns" (defArgs s_uses_and_owns) (defBody s_uses_and_owns) (defScope s_uses_and_owns) .none kV5 dc5 pm5 an5 cd5 ct5),
    a_uses_in := f6, fd_uses_in := (PySem.W.fnOf "uses_in" "uses_in" (defArgs s_uses_in) (defBody s_uses_in) (defScope s_uses_in) .none kV6 dc6 pm6 an6 cd6 ct6),
    a_run_end := f7, fd_run_end := (PySem.W.fnOf "run_end" "run_end" (defArgs s_run_end) (defBody s_run_end) (defScope s_run_end) .none kV7 dc7 pm7 an7 cd7 ct7),
    a_word_end := f8, fd_word_end := (PySem.W.fnOf "word_end" "word_end" (defArgs s_word_end) (defBody s_word_end) (defScope s_word_end) .none kV8 dc8 pm8 an8 cd8 ct8),
    a_tag_end := f9, fd_tag_end := (PySem.W.fnOf "tag_end" "tag_end" (defArgs s_tag_end) (defBody s_tag_end) (defScope s_tag_end) .none kV9 dc9 pm9 an9 cd9 ct9),
    a_is_word := f10, fd_is_word := (PySem.W.fnOf "is_word" "is_word" (defArgs s_is_word) (defBody s_is_word) (defScope s_is_word) .none kV10 dc10 pm10 an10 cd10 ct10),
    a_is_plain_word := f11, fd_is_plain_word := (PySem.W.fnOf "is_plain_word" "is_plain_word" (defArgs s_is_plain_word) (defBody s_is_plain_word) (defScope s_is_plain_word) .none kV11 dc11 pm11 an11 cd11 ct11),
    a_is_tag := f12, fd_is_tag := (PySem.W.fnOf "is_tag" "is_tag" (defArgs s_is_tag) (defBody s_is_tag) (defScope s_is_tag) .none kV12 dc12 pm12 an12 cd12 ct12),
    a_is_kind_name := f13, fd_is_kind_name := (PySem.W.fnOf "is_kind_name" "is_kind_name" (defArgs s_is_kind_name) (defBody s_is_kind_name) (defScope s_is_kind_name) .none kV13 dc13 pm13 an13 cd13 ct13),
    a_is_integer := f14, fd_is_integer := (PySem.W.fnOf "is_integer" "is_integer" (defArgs s_is_integer) (defBody s_is_integer) (defScope s_is_integer) .none kV14 dc14 pm14 an14 cd14 ct14),
    a_Ratio_init := f15, fd_Ratio_init := (PySem.W.fnOf "__init__" "Ratio.__init__" (defArgs s_Ratio_init) (defBody s_Ratio_init) (defScope s_Ratio_init) (.ref D15) kV15 dc15 pm15 an15 cd15 ct15),
    a_is_factor := f16, fd_is_factor := (PySem.W.fnOf "is_factor" "is_factor" (defArgs s_is_factor) (defBody s_is_factor) (defScope s_is_factor) .none kV16 dc16 pm16 an16 cd16 ct16),
    a_is_measure := f17, fd_is_measure := (PySem.W.fnOf "is_measure" "is_measure" (defArgs s_is_measure) (defBody s_is_measure) (defScope s_is_measure) .none kV17 dc17 pm17 an17 cd17 ct17),
    a_first_stray := f18, fd_first_stray := (PySem.W.fnOf "first_stray" "first_stray" (defArgs s_first_stray) (defBody s_first_stray) (defScope s_first_stray) .none kV18 dc18 pm18 an18 cd18 ct18),
    a_row_kinds := f19, fd_row_kinds := (PySem.W.fnOf "row_kinds" "row_kinds" (defArgs s_row_kinds) (defBody s_row_kinds) (defScope s_row_kinds) .none kV19 dc19 pm19 an19 cd19 ct19),
    a_inner_values := f20, fd_inner_values := (PySem.W.fnOf "inner_values" "inner_values" (defArgs s_inner_values) (defBody s_inner_values) (defScope s_inner_values) .none kV20 dc20 pm20 an20 cd20 ct20),
    a_is_built_kind := f21, fd_is_built_kind := (PySem.W.fnOf "is_built_kind" "is_built_kind" (defArgs s_is_built_kind) (defBody s_is_built_kind) (defScope s_is_built_kind) .none kV21 dc21 pm21 an21 cd21 ct21),
    a_is_kind := f22, fd_is_kind := (PySem.W.fnOf "is_kind" "is_kind" (defArgs s_is_kind) (defBody s_is_kind) (defScope s_is_kind) .none kV22 dc22 pm22 an22 cd22 ct22),
    a_is_unit := f23, fd_is_unit := (PySem.W.fnOf "is_unit" "is_unit" (defArgs s_is_unit) (defBody s_is_unit) (defScope s_is_unit) .none kV23 dc23 pm23 an23 cd23 ct23),
    a_are_entries := f24, fd_are_entries := (PySem.W.fnOf "are_entries" "are_entries" (defArgs s_are_entries) (defBody s_are_entries) (defScope s_are_entries) .none kV24 dc24 pm24 an24 cd24 ct24),
    a_are_rows := f25, fd_are_rows := (PySem.W.fnOf "are_rows" "are_rows" (defArgs s_are_rows) (defBody s_are_rows) (defScope s_are_rows) .none kV25 dc25 pm25 an25 cd25 ct25),
    a_is_of := f26, fd_is_of := (PySem.W.fnOf "is_of" "is_of" (defArgs s_is_of) (defBody s_is_of) (defScope s_is_of) .none kV26 dc26 pm26 an26 cd26 ct26),
    a_fits_shape := f27, fd_fits_shape := (PySem.W.fnOf "fits_shape" "fits_shape" (defArgs s_fits_shape) (defBody s_fits_shape) (defScope s_fits_shape) .none kV27 dc27 pm27 an27 cd27 ct27),
    a_shaped := f28, fd_shaped := (PySem.W.fnOf "shaped" "shaped" (defArgs s_shaped) (defBody s_shaped) (defScope s_shaped) .none kV28 dc28 pm28 an28 cd28 ct28),
    a_is_tree := f29, fd_is_tree := (PySem.W.fnOf "is_tree" "is_tree" (defArgs s_is_tree) (defBody s_is_tree) (defScope s_is_tree) .none kV29 dc29 pm29 an29 cd29 ct29),
    a_is_pattern := f30, fd_is_pattern := (PySem.W.fnOf "is_pattern" "is_pattern" (defArgs s_is_pattern) (defBody s_is_pattern) (defScope s_is_pattern) .none kV30 dc30 pm30 an30 cd30 ct30),
    a_scopes_in := f31, fd_scopes_in := (PySem.W.fnOf "scopes_in" "scopes_in" (defArgs s_scopes_in) (defBody s_scopes_in) (defScope s_scopes_in) .none kV31 dc31 pm31 an31 cd31 ct31),
    a_marks_in := f32, fd_marks_in := (PySem.W.fnOf "marks_in" "marks_in" (defArgs s_marks_in) (defBody s_marks_in) (defScope s_marks_in) .none kV32 dc32 pm32 an32 cd32 ct32),
    a_binder_marks := f33, fd_binder_marks := (PySem.W.fnOf "binder_marks" "binder_marks" (defArgs s_binder_marks) (defBody s_binder_marks) (defScope s_binder_marks) .none kV33 dc33 pm33 an33 cd33 ct33),
    a_binder_numbers := f34, fd_binder_numbers := (PySem.W.fnOf "binder_numbers" "binder_numbers" (defArgs s_binder_numbers) (defBody s_binder_numbers) (defScope s_binder_numbers) .none kV34 dc34 pm34 an34 cd34 ct34),
    a_takes := f35, fd_takes := (PySem.W.fnOf "takes" "takes" (defArgs s_takes) (defBody s_takes) (defScope s_takes) .none kV35 dc35 pm35 an35 cd35 ct35),
    a_is_value_shape := f36, fd_is_value_shape := (PySem.W.fnOf "is_value_shape" "is_value_shape" (defArgs s_is_value_shape) (defBody s_is_value_shape) (defScope s_is_value_shape) .none kV36 dc36 pm36 an36 cd36 ct36),
    a_is_value_tree := f37, fd_is_value_tree := (PySem.W.fnOf "is_value_tree" "is_value_tree" (defArgs s_is_value_tree) (defBody s_is_value_tree) (defScope s_is_value_tree) .none kV37 dc37 pm37 an37 cd37 ct37),
    a_law_bag := f38, fd_law_bag := (PySem.W.fnOf "_law_bag" "_law_bag" (defArgs s_law_bag) (defBody s_law_bag) (defScope s_law_bag) .none kV38 dc38 pm38 an38 cd38 ct38),
    a_law_draw := f39, fd_law_draw := (PySem.W.fnOf "_law_draw" "_law_draw" (defArgs s_law_draw) (defBody s_law_draw) (defScope s_law_draw) .none kV39 dc39 pm39 an39 cd39 ct39),
    a_law_at := f40, fd_law_at := (PySem.W.fnOf "_law_at" "_law_at" (defArgs s_law_at) (defBody s_law_at) (defScope s_law_at) .none kV40 dc40 pm40 an40 cd40 ct40),
    a_law_tree_of := f41, fd_law_tree_of := (PySem.W.fnOf "_law_tree_of" "_law_tree_of" (defArgs s_law_tree_of) (defBody s_law_tree_of) (defScope s_law_tree_of) .none kV41 dc41 pm41 an41 cd41 ct41),
    a_law_odd_of := f42, fd_law_odd_of := (PySem.W.fnOf "_law_odd_of" "_law_odd_of" (defArgs s_law_odd_of) (defBody s_law_odd_of) (defScope s_law_odd_of) .none kV42 dc42 pm42 an42 cd42 ct42),
    a_law_pattern_of := f43, fd_law_pattern_of := (PySem.W.fnOf "_law_pattern_of" "_law_pattern_of" (defArgs s_law_pattern_of) (defBody s_law_pattern_of) (defScope s_law_pattern_of) .none kV43 dc43 pm43 an43 cd43 ct43),
    a_law_takes_of := f44, fd_law_takes_of := (PySem.W.fnOf "_law_takes_of" "_law_takes_of" (defArgs s_law_takes_of) (defBody s_law_takes_of) (defScope s_law_takes_of) .none kV44 dc44 pm44 an44 cd44 ct44),
    a_law := fa, fd_law := (PySem.W.fnOf "law" "law" (defArgs s_law) (defBody s_law) (defScope s_law) .none kV45 dc45 pm45 an45 cd45 ct45),
    a_TREES := A_TREES,
    a_TREES_0 := A_TREES_0,
    a_TREES_1 := A_TREES_1,
    a_TREES_2 := A_TREES_2,
    a_TREES_3 := A_TREES_3,
    a_TREES_4 := A_TREES_4,
    a_TREES_5 := A_TREES_5,
    a_TREES_6 := A_TREES_6,
    a_TREES_7 := A_TREES_7,
    a_TREES_8 := A_TREES_8,
    a_TREES_9 := A_TREES_9,
    a_TREES_10 := A_TREES_10,
    a_TREES_11 := A_TREES_11,
    a_TREES_12 := A_TREES_12,
    a_TREES_13 := A_TREES_13,
    a_TREES_14 := A_TREES_14,
    a_PATTERNS := A_PATTERNS,
    a_PATTERNS_0 := A_PATTERNS_0,
    a_PATTERNS_1 := A_PATTERNS_1,
    a_PATTERNS_2 := A_PATTERNS_2,
    a_PATTERNS_3 := A_PATTERNS_3,
    a_SPANS := A_SPANS,
    a_SPANS_0 := A_SPANS_0,
    a_SPANS_1 := A_SPANS_1,
    a_SPANS_2 := A_SPANS_2,
    a_SPANS_3 := A_SPANS_3,
    a_SPANS_4 := A_SPANS_4,
    a_SPANS_5 := A_SPANS_5,
    a_SPANS_6 := A_SPANS_6,
    a_SPANS_7 := A_SPANS_7,
    a_SPANS_8 := A_SPANS_8,
    a_SPANS_9 := A_SPANS_9,
    a_SPANS_10 := A_SPANS_10,
    a_SPANS_11 := A_SPANS_11,
    a_SPANS_12 := A_SPANS_12,
    a_LEAVES := A_LEAVES,
    a_OWN_WORDS := A_OWN_WORDS,
    a_SIGNS := A_SIGNS,
    c_KindError := C_KindError,
    c_ByZero := C_ByZero,
    c_Ratio := C_Ratio } := {
    F_is_row := F0, b_is_row := b0, m_is_row := PySem.W.mg_of X G a0,
    F_parts_in := F1, b_parts_in := b1, m_parts_in := PySem.W.mg_of X G a1,
    F_parts_of := F2, b_parts_of := b2, m_parts_of := PySem.W.mg_of X G a2,
    F_inner_numbers := F3, b_inner_numbers := b3, m_inner_numbers := PySem.W.mg_of X G a3,
    F_is_name := F4, b_is_name := b4, m_is_name := PySem.W.mg_of X G a4,
    F_uses_and_owns := F5, b_uses_and_owns := b5, m_uses_and_owns := PySem.W.mg_of X G a5,
    F_uses_in := F6, b_uses_in := b6, m_uses_in := PySem.W.mg_of X G a6,
    F_run_end := F7, b_run_end := b7, m_run_end := PySem.W.mg_of X G a7,
    F_word_end := F8, b_word_end := b8, m_word_end := PySem.W.mg_of X G a8,
    F_tag_end := F9, b_tag_end := b9, m_tag_end := PySem.W.mg_of X G a9,
    F_is_word := F10, b_is_word := b10, m_is_word := PySem.W.mg_of X G a10,
    F_is_plain_word := F11, b_is_plain_word := b11, m_is_plain_word := PySem.W.mg_of X G a11,
    F_is_tag := F12, b_is_tag := b12, m_is_tag := PySem.W.mg_of X G a12,
    F_is_kind_name := F13, b_is_kind_name := b13, m_is_kind_name := PySem.W.mg_of X G a13,
    F_is_integer := F14, b_is_integer := b14, m_is_integer := PySem.W.mg_of X G a14,
    F_Ratio_init := F15, b_Ratio_init := b15,
    F_is_factor := F16, b_is_factor := b16, m_is_factor := PySem.W.mg_of X G a16,
    F_is_measure := F17, b_is_measure := b17, m_is_measure := PySem.W.mg_of X G a17,
    F_first_stray := F18, b_first_stray := b18, m_first_stray := PySem.W.mg_of X G a18,
    F_row_kinds := F19, b_row_kinds := b19, m_row_kinds := PySem.W.mg_of X G a19,
    F_inner_values := F20, b_inner_values := b20, m_inner_values := PySem.W.mg_of X G a20,
    F_is_built_kind := F21, b_is_built_kind := b21, m_is_built_kind := PySem.W.mg_of X G a21,
    F_is_kind := F22, b_is_kind := b22, m_is_kind := PySem.W.mg_of X G a22,
    F_is_unit := F23, b_is_unit := b23, m_is_unit := PySem.W.mg_of X G a23,
    F_are_entries := F24, b_are_entries := b24, m_are_entries := PySem.W.mg_of X G a24,
    F_are_rows := F25, b_are_rows := b25, m_are_rows := PySem.W.mg_of X G a25,
    F_is_of := F26, b_is_of := b26, m_is_of := PySem.W.mg_of X G a26,
    F_fits_shape := F27, b_fits_shape := b27, m_fits_shape := PySem.W.mg_of X G a27,
    F_shaped := F28, b_shaped := b28, m_shaped := PySem.W.mg_of X G a28,
    F_is_tree := F29, b_is_tree := b29, m_is_tree := PySem.W.mg_of X G a29,
    F_is_pattern := F30, b_is_pattern := b30, m_is_pattern := PySem.W.mg_of X G a30,
    F_scopes_in := F31, b_scopes_in := b31, m_scopes_in := PySem.W.mg_of X G a31,
    F_marks_in := F32, b_marks_in := b32, m_marks_in := PySem.W.mg_of X G a32,
    F_binder_marks := F33, b_binder_marks := b33, m_binder_marks := PySem.W.mg_of X G a33,
    F_binder_numbers := F34, b_binder_numbers := b34, m_binder_numbers := PySem.W.mg_of X G a34,
    F_takes := F35, b_takes := b35, m_takes := PySem.W.mg_of X G a35,
    F_is_value_shape := F36, b_is_value_shape := b36, m_is_value_shape := PySem.W.mg_of X G a36,
    F_is_value_tree := F37, b_is_value_tree := b37, m_is_value_tree := PySem.W.mg_of X G a37,
    F_law_bag := F38, b_law_bag := b38, m_law_bag := PySem.W.mg_of X G a38,
    F_law_draw := F39, b_law_draw := b39, m_law_draw := PySem.W.mg_of X G a39,
    F_law_at := F40, b_law_at := b40, m_law_at := PySem.W.mg_of X G a40,
    F_law_tree_of := F41, b_law_tree_of := b41, m_law_tree_of := PySem.W.mg_of X G a41,
    F_law_odd_of := F42, b_law_odd_of := b42, m_law_odd_of := PySem.W.mg_of X G a42,
    F_law_pattern_of := F43, b_law_pattern_of := b43, m_law_pattern_of := PySem.W.mg_of X G a43,
    F_law_takes_of := F44, b_law_takes_of := b44, m_law_takes_of := PySem.W.mg_of X G a44,
    F_law := F45, b_law := b45, m_law := PySem.W.mg_of X G a45,
    n_any := PySem.W.mg_none_of X G z_any,
    n_bool := PySem.W.mg_none_of X G z_bool,
    n_dict := PySem.W.mg_none_of X G z_dict,
    n_enumerate := PySem.W.mg_none_of X G z_enumerate,
    n_int := PySem.W.mg_none_of X G z_int,
    n_isinstance := PySem.W.mg_none_of X G z_isinstance,
    n_len := PySem.W.mg_none_of X G z_len,
    n_list := PySem.W.mg_none_of X G z_list,
    n_range := PySem.W.mg_none_of X G z_range,
    n_set := PySem.W.mg_none_of X G z_set,
    n_str := PySem.W.mg_none_of X G z_str,
    n_tuple := PySem.W.mg_none_of X G z_tuple,
    n_zip := PySem.W.mg_none_of X G z_zip,
    m_TREES := ⟨_, PySem.W.mg_of X G g_TREES, rfl⟩,
    q_TREES := ⟨_, _, ⟨L_TREES, (by exact ⟨⟨_, _, rfl, rfl⟩, ⟨⟨_, _, rfl, rfl⟩, ⟨⟨_, _, rfl, rfl⟩, ⟨⟨_, _, rfl, rfl⟩, ⟨⟨_, _, rfl, rfl⟩, ⟨⟨_, _, rfl, rfl⟩, ⟨⟨_, _, rfl, rfl⟩, ⟨⟨_, _, rfl, rfl⟩, ⟨⟨_, _, rfl, rfl⟩, ⟨⟨_, _, rfl, rfl⟩, ⟨⟨_, _, rfl, rfl⟩, ⟨⟨_, _, rfl, rfl⟩, ⟨⟨_, _, rfl, rfl⟩, ⟨⟨_, _, rfl, rfl⟩, ⟨⟨_, _, rfl, rfl⟩, trivial⟩⟩⟩⟩⟩⟩⟩⟩⟩⟩⟩⟩⟩⟩⟩), lo_TREES⟩, (by exact .cons ⟨⟨_, rfl⟩, rfl⟩ (.cons ⟨⟨_, rfl⟩, rfl⟩ (.cons ⟨⟨_, rfl⟩, rfl⟩ (.cons ⟨⟨_, rfl⟩, rfl⟩ (.cons ⟨⟨_, rfl⟩, rfl⟩ (.cons ⟨⟨_, rfl⟩, rfl⟩ (.cons ⟨⟨_, rfl⟩, rfl⟩ (.cons ⟨⟨_, rfl⟩, rfl⟩ (.cons ⟨⟨_, rfl⟩, rfl⟩ (.cons ⟨⟨_, rfl⟩, rfl⟩ (.cons ⟨⟨_, rfl⟩, rfl⟩ (.cons ⟨⟨_, rfl⟩, rfl⟩ (.cons ⟨⟨_, rfl⟩, rfl⟩ (.cons ⟨⟨_, rfl⟩, rfl⟩ (.cons ⟨⟨_, rfl⟩, rfl⟩ (.nil))))))))))))))))⟩,
    q_TREES_0 := fun H => Or.inr ⟨_, _, _, L_TREES_0, rfl, rfl, (by show 2 ≤ sizeLine; decide), (by exact U.strsV _ _ (by repeat constructor))⟩,
    q_TREES_1 := fun H => Or.inr ⟨_, _, _, L_TREES_1, rfl, rfl, (by show 1 ≤ sizeLine; decide), (by exact U.strsV _ _ (by repeat constructor))⟩,
    q_TREES_2 := fun H => Or.inr ⟨_, _, _, L_TREES_2, rfl, rfl, (by show 1 ≤ sizeLine; decide), (by exact U.strsV _ _ (by repeat constructor))⟩,
    q_TREES_3 := fun H => Or.inr ⟨_, _, _, L_TREES_3, rfl, rfl, (by show 2 ≤ sizeLine; decide), (by exact U.strsV _ _ (by repeat constructor))⟩,
    q_TREES_4 := fun H => Or.inr ⟨_, _, _, L_TREES_4, rfl, rfl, (by show 2 ≤ sizeLine; decide), (by exact U.strsV _ _ (by repeat constructor))⟩,
    q_TREES_5 := fun H => Or.inr ⟨_, _, _, L_TREES_5, rfl, rfl, (by show 3 ≤ sizeLine; decide), (by exact U.strsV _ _ (by repeat constructor))⟩,
    q_TREES_6 := fun H => Or.inr ⟨_, _, _, L_TREES_6, rfl, rfl, (by show 4 ≤ sizeLine; decide), (by exact U.strsV _ _ (by repeat constructor))⟩,
    q_TREES_7 := fun H => Or.inr ⟨_, _, _, L_TREES_7, rfl, rfl, (by show 1 ≤ sizeLine; decide), (by exact U.strsV _ _ (by repeat constructor))⟩,
    q_TREES_8 := fun H => Or.inr ⟨_, _, _, L_TREES_8, rfl, rfl, (by show 3 ≤ sizeLine; decide), (by exact U.strsV _ _ (by repeat constructor))⟩,
    q_TREES_9 := fun H => Or.inr ⟨_, _, _, L_TREES_9, rfl, rfl, (by show 2 ≤ sizeLine; decide), (by exact U.strsV _ _ (by repeat constructor))⟩,
    q_TREES_10 := fun H => Or.inr ⟨_, _, _, L_TREES_10, rfl, rfl, (by show 2 ≤ sizeLine; decide), (by exact U.strsV _ _ (by repeat constructor))⟩,
    q_TREES_11 := fun H => Or.inr ⟨_, _, _, L_TREES_11, rfl, rfl, (by show 2 ≤ sizeLine; decide), (by exact U.strsV _ _ (by repeat constructor))⟩,
    q_TREES_12 := fun H => Or.inr ⟨_, _, _, L_TREES_12, rfl, rfl, (by show 3 ≤ sizeLine; decide), (by exact U.strsV _ _ (by repeat constructor))⟩,
    q_TREES_13 := fun H => Or.inr ⟨_, _, _, L_TREES_13, rfl, rfl, (by show 2 ≤ sizeLine; decide), (by exact U.strsV _ _ (by repeat constructor))⟩,
    q_TREES_14 := fun H => Or.inr ⟨_, _, _, L_TREES_14, rfl, rfl, (by show 2 ≤ sizeLine; decide), (by exact U.strsV _ _ (by repeat constructor))⟩,
    m_PATTERNS := ⟨_, PySem.W.mg_of X G g_PATTERNS, rfl⟩,
    q_PATTERNS := ⟨_, _, ⟨L_PATTERNS, (by exact ⟨⟨_, _, rfl, rfl⟩, ⟨⟨_, _, rfl, rfl⟩, ⟨⟨_, _, rfl, rfl⟩, ⟨⟨_, _, rfl, rfl⟩, trivial⟩⟩⟩⟩), lo_PATTERNS⟩, (by exact .cons ⟨⟨_, rfl⟩, rfl⟩ (.cons ⟨⟨_, rfl⟩, rfl⟩ (.cons ⟨⟨_, rfl⟩, rfl⟩ (.cons ⟨⟨_, rfl⟩, rfl⟩ (.nil)))))⟩,
    q_PATTERNS_0 := fun H => Or.inr ⟨_, _, _, L_PATTERNS_0, rfl, rfl, (by show 0 ≤ sizeLine; decide), (by exact U.strsV _ _ (by repeat constructor))⟩,
    q_PATTERNS_1 := fun H => Or.inr ⟨_, _, _, L_PATTERNS_1, rfl, rfl, (by show 1 ≤ sizeLine; decide), (by exact U.strsV _ _ (by repeat constructor))⟩,
    q_PATTERNS_2 := fun H => Or.inr ⟨_, _, _, L_PATTERNS_2, rfl, rfl, (by show 2 ≤ sizeLine; decide), (by exact U.strsV _ _ (by repeat constructor))⟩,
    q_PATTERNS_3 := fun H => Or.inr ⟨_, _, _, L_PATTERNS_3, rfl, rfl, (by show 1 ≤ sizeLine; decide), (by exact U.strsV _ _ (by repeat constructor))⟩,
    m_SPANS := ⟨_, PySem.W.mg_of X G g_SPANS, rfl⟩,
    q_SPANS := ⟨_, _, ⟨L_SPANS, (by exact ⟨⟨_, _, rfl, rfl⟩, ⟨⟨_, _, rfl, rfl⟩, ⟨⟨_, _, rfl, rfl⟩, ⟨⟨_, _, rfl, rfl⟩, ⟨⟨_, _, rfl, rfl⟩, ⟨⟨_, _, rfl, rfl⟩, ⟨⟨_, _, rfl, rfl⟩, ⟨⟨_, _, rfl, rfl⟩, ⟨⟨_, _, rfl, rfl⟩, ⟨⟨_, _, rfl, rfl⟩, ⟨⟨_, _, rfl, rfl⟩, ⟨⟨_, _, rfl, rfl⟩, ⟨⟨_, _, rfl, rfl⟩, trivial⟩⟩⟩⟩⟩⟩⟩⟩⟩⟩⟩⟩⟩), lo_SPANS⟩, (by exact .cons ⟨⟨_, rfl⟩, rfl⟩ (.cons ⟨⟨_, rfl⟩, rfl⟩ (.cons ⟨⟨_, rfl⟩, rfl⟩ (.cons ⟨⟨_, rfl⟩, rfl⟩ (.cons ⟨⟨_, rfl⟩, rfl⟩ (.cons ⟨⟨_, rfl⟩, rfl⟩ (.cons ⟨⟨_, rfl⟩, rfl⟩ (.cons ⟨⟨_, rfl⟩, rfl⟩ (.cons ⟨⟨_, rfl⟩, rfl⟩ (.cons ⟨⟨_, rfl⟩, rfl⟩ (.cons ⟨⟨_, rfl⟩, rfl⟩ (.cons ⟨⟨_, rfl⟩, rfl⟩ (.cons ⟨⟨_, rfl⟩, rfl⟩ (.nil))))))))))))))⟩,
    q_SPANS_0 := fun H => Or.inr ⟨_, _, _, L_SPANS_0, rfl, rfl, (by show 2 ≤ sizeLine; decide), (by exact .cons ⟨_, rfl⟩ (.cons ⟨_, rfl⟩ (.nil)))⟩,
    q_SPANS_1 := fun H => Or.inr ⟨_, _, _, L_SPANS_1, rfl, rfl, (by show 2 ≤ sizeLine; decide), (by exact .cons ⟨_, rfl⟩ (.cons ⟨_, rfl⟩ (.nil)))⟩,
    q_SPANS_2 := fun H => Or.inr ⟨_, _, _, L_SPANS_2, rfl, rfl, (by show 2 ≤ sizeLine; decide), (by exact .cons ⟨_, rfl⟩ (.cons ⟨_, rfl⟩ (.nil)))⟩,
    q_SPANS_3 := fun H => Or.inr ⟨_, _, _, L_SPANS_3, rfl, rfl, (by show 2 ≤ sizeLine; decide), (by exact .cons ⟨_, rfl⟩ (.cons ⟨_, rfl⟩ (.nil)))⟩,
    q_SPANS_4 := fun H => Or.inr ⟨_, _, _, L_SPANS_4, rfl, rfl, (by show 2 ≤ sizeLine; decide), (by exact .cons ⟨_, rfl⟩ (.cons ⟨_, rfl⟩ (.nil)))⟩,
    q_SPANS_5 := fun H => Or.inr ⟨_, _, _, L_SPANS_5, rfl, rfl, (by show 2 ≤ sizeLine; decide), (by exact .cons ⟨_, rfl⟩ (.cons ⟨_, rfl⟩ (.nil)))⟩,
    q_SPANS_6 := fun H => Or.inr ⟨_, _, _, L_SPANS_6, rfl, rfl, (by show 2 ≤ sizeLine; decide), (by exact .cons ⟨_, rfl⟩ (.cons ⟨_, rfl⟩ (.nil)))⟩,
    q_SPANS_7 := fun H => Or.inr ⟨_, _, _, L_SPANS_7, rfl, rfl, (by show 2 ≤ sizeLine; decide), (by exact .cons ⟨_, rfl⟩ (.cons ⟨_, rfl⟩ (.nil)))⟩,
    q_SPANS_8 := fun H => Or.inr ⟨_, _, _, L_SPANS_8, rfl, rfl, (by show 2 ≤ sizeLine; decide), (by exact .cons ⟨_, rfl⟩ (.cons ⟨_, rfl⟩ (.nil)))⟩,
    q_SPANS_9 := fun H => Or.inr ⟨_, _, _, L_SPANS_9, rfl, rfl, (by show 2 ≤ sizeLine; decide), (by exact .cons ⟨_, rfl⟩ (.cons ⟨_, rfl⟩ (.nil)))⟩,
    q_SPANS_10 := fun H => Or.inr ⟨_, _, _, L_SPANS_10, rfl, rfl, (by show 2 ≤ sizeLine; decide), (by exact .cons ⟨_, rfl⟩ (.cons ⟨_, rfl⟩ (.nil)))⟩,
    q_SPANS_11 := fun H => Or.inr ⟨_, _, _, L_SPANS_11, rfl, rfl, (by show 2 ≤ sizeLine; decide), (by exact .cons ⟨_, rfl⟩ (.cons ⟨_, rfl⟩ (.nil)))⟩,
    q_SPANS_12 := fun H => Or.inr ⟨_, _, _, L_SPANS_12, rfl, rfl, (by show 2 ≤ sizeLine; decide), (by exact .cons ⟨_, rfl⟩ (.cons ⟨_, rfl⟩ (.nil)))⟩,
    m_LEAVES := ⟨_, PySem.W.mg_of X G g_LEAVES, rfl⟩,
    q_LEAVES := ⟨_, _, ⟨L_LEAVES, (by exact ⟨⟨_, _, rfl, rfl⟩, ⟨⟨_, _, rfl, rfl⟩, ⟨⟨_, _, rfl, rfl⟩, ⟨⟨_, _, rfl, rfl⟩, ⟨⟨_, _, rfl, rfl⟩, trivial⟩⟩⟩⟩⟩), lo_LEAVES⟩, (by exact .cons ⟨⟨_, rfl⟩, rfl⟩ (.cons ⟨⟨_, rfl⟩, rfl⟩ (.cons ⟨⟨_, rfl⟩, rfl⟩ (.cons ⟨⟨_, rfl⟩, rfl⟩ (.cons ⟨⟨_, rfl⟩, rfl⟩ (.nil))))))⟩,
    m_OWN_WORDS := ⟨_, PySem.W.mg_of X G g_OWN_WORDS, rfl⟩,
    q_OWN_WORDS := ⟨_, _, ⟨L_OWN_WORDS, (by exact ⟨⟨_, _, rfl, rfl⟩, ⟨⟨_, _, rfl, rfl⟩, ⟨⟨_, _, rfl, rfl⟩, ⟨⟨_, _, rfl, rfl⟩, ⟨⟨_, _, rfl, rfl⟩, ⟨⟨_, _, rfl, rfl⟩, ⟨⟨_, _, rfl, rfl⟩, ⟨⟨_, _, rfl, rfl⟩, trivial⟩⟩⟩⟩⟩⟩⟩⟩), lo_OWN_WORDS⟩, (by exact .cons ⟨⟨_, rfl⟩, rfl⟩ (.cons ⟨⟨_, rfl⟩, rfl⟩ (.cons ⟨⟨_, rfl⟩, rfl⟩ (.cons ⟨⟨_, rfl⟩, rfl⟩ (.cons ⟨⟨_, rfl⟩, rfl⟩ (.cons ⟨⟨_, rfl⟩, rfl⟩ (.cons ⟨⟨_, rfl⟩, rfl⟩ (.cons ⟨⟨_, rfl⟩, rfl⟩ (.nil)))))))))⟩,
    m_SMALL_LETTERS := ⟨_, PySem.W.mg_of X G g_SMALL_LETTERS, ⟨_, rfl⟩⟩,
    m_CAPITALS := ⟨_, PySem.W.mg_of X G g_CAPITALS, ⟨_, rfl⟩⟩,
    m_DIGITS := ⟨_, PySem.W.mg_of X G g_DIGITS, ⟨_, rfl⟩⟩,
    m_SIGNS := ⟨_, PySem.W.mg_of X G g_SIGNS, rfl⟩,
    q_SIGNS := fun H => Or.inr ⟨_, _, _, L_SIGNS, rfl, rfl, (by show 5 ≤ sizeLine; decide), (by exact U.strsV _ _ (by repeat constructor))⟩,
    m_gcd := PySem.W.mg_of X G g_gcd,
    cn := cn, ct := ct,
    m_KindError := PySem.W.mg_of X G aC_KindError,
    m_ByZero := PySem.W.mg_of X G aC_ByZero,
    x_ByZero := x_ByZero, k_ByZero := k_ByZero, b_ByZero := b_ByZero, t_ByZero := t_ByZero, te_ByZero := U.exm_self b_ByZero i_ByZero t_ByZero sC_ByZero,
    m_Ratio := PySem.W.mg_of X G aC_Ratio,
    cls_Ratio := ⟨c1_Ratio, c2_Ratio, c3_Ratio, c4_Ratio⟩, mk_Ratio := ⟨mk1_Ratio, a15, mk2_Ratio, mk3_Ratio⟩, ca_Ratio := ca_Ratio, cm_Ratio := cm_Ratio, sf_Ratio := sf_Ratio, sub_Ratio := sub_Ratio,
    nf_Ratio_int := nf_Ratio_int, ki_Ratio_int := kit_no iC_Ratio tC_Ratio ki_Ratio_int,
    nf_Ratio_bool := nf_Ratio_bool, ki_Ratio_bool := kit_no iC_Ratio tC_Ratio ki_Ratio_bool,
    nf_Ratio_NoneType := nf_Ratio_NoneType, ki_Ratio_NoneType := kit_no iC_Ratio tC_Ratio ki_Ratio_NoneType,
    nf_Ratio_str := nf_Ratio_str, ki_Ratio_str := kit_no iC_Ratio tC_Ratio ki_Ratio_str,
    nf_Ratio_tuple := nf_Ratio_tuple, ki_Ratio_tuple := kit_no iC_Ratio tC_Ratio ki_Ratio_tuple,
    nf_Ratio_list := nf_Ratio_list, ki_Ratio_list := kit_no iC_Ratio tC_Ratio ki_Ratio_list,
    nf_Ratio_dict := nf_Ratio_dict, ki_Ratio_dict := kit_no iC_Ratio tC_Ratio ki_Ratio_dict,
    ko_Ratio_tuple := kit_noT (by decide +kernel) so_Ratio_tuple,
    ko_Ratio_str := kit_noT (by decide +kernel) so_Ratio_str,
    ko_Ratio_int := kit_noT (by decide +kernel) so_Ratio_int,
    ko_Ratio_bool := kit_noT (by decide +kernel) so_Ratio_bool,
    na_Ratio_top := na_Ratio_top,
    na_Ratio_bottom := na_Ratio_bottom }
  exact ⟨PySem.W.fnOf "law" "law" (defArgs s_law) (defBody s_law) (defScope s_law) .none kV45 dc45 pm45 an45 cd45 ct45, fun s v => .of_eq rfl, fun base _ _ => ok_law T⟩
theorem walk {l : PySem.W.OpenLaw} {q : Program} {loose : List Str} {XP : (Str → Option Value) → Heap → Prop} {YP : World → Heap → Prop} {d : DefRec} {K : Params → PySem.W.Frag} (hn : l.most = some 63) (hdf : d.params.defaults = [])
    (hY : ∀ (w : World) (h : Heap), YP w h → (K w.params).In h)
    (F : ∀ (w : World) (mg : Str → Option Value) (fa : Addr) (h : Heap), (K w.params).In h → h.Ns mainGlobals mg → mg d.name = some (.ref fa) →
      ∃ fd : FuncData, (∀ (s : Shared) (u : Value), BindsTo s fd ⟨[u], []⟩ [("script", u)]) ∧ ∀ base : Heap, (K w.params).In base → base.Ns mainGlobals mg → FnOk l.prog w (K w.params) mg base CX0 15 fa fd ["script"] (spLaw (K w.params))) :
    PySem.W.WalkO q loose XP YP l.row.toRowW d [] (fun f vs => PySem.call f vs) :=
  L2.walk_of (n := 63) (k := 15) (x := "script") (CX := fun _ => CX0) (sp := fun w => spLaw (K w.params)) hn (by decide) hdf ⟨rfl, by decide, by decide⟩ hY F (fun _ _ a ns hl _ hS => ⟨a, ns, rfl, hS, hl, fun _ => rfl⟩) fun _ _ _ _ _ z => z
end Toy
open PySem PySem.W PyProof.Rows
set_option maxRecDepth 100000 in
set_option maxHeartbeats 0 in
theorem PySem.Challenge.cw_widestkind_k38_patterns_and_value_trees_holds : PySem.Challenge.rw_widestkind_k38_patterns_and_value_trees.Holds := by
  w_on; o_law; k_head; (case hw => w_witness2)
  k_fill
  refine Toy.walk (l := PySem.Challenge.rw_widestkind_k38_patterns_and_value_trees) rfl rfl (fun w h Y => PySem.W.kIn_of Y) ?F
  case F =>
    intro w mg fa h KX G hmg
    refine' Toy.all_mk KX G hmg ?aC_KindError ?aC_ByZero ?aC_Ratio ?a0 ?l0 ?e0 ?k0 ?a1 ?l1 ?e1 ?k1 ?a2 ?l2 ?e2 ?k2 ?a3 ?l3 ?e3 ?k3 ?a4 ?l4 ?e4 ?k4 ?a5 ?l5 ?e5 ?k5 ?a6 ?l6 ?e6 ?k6 ?a7 ?l7 ?e7 ?k7 ?a8 ?l8 ?e8 ?k8 ?a9 ?l9 ?e9 ?k9 ?a10 ?l10 ?e10 ?k10 ?a11 ?l11 ?e11 ?k11 ?a12 ?l12 ?e12 ?k12 ?a13 ?l13 ?e13 ?k13 ?a14 ?l14 ?e14 ?k14 ?a15 ?l15 ?ld15 ?e15 ?k15 ?a16 ?l16 ?e16 ?k16 ?a17 ?l17 ?e17 ?k17 ?a18 ?l18 ?e18 ?k18 ?a19 ?l19 ?e19 ?k19 ?a20 ?l20 ?e20 ?k20 ?a21 ?l21 ?e21 ?k21 ?a22 ?l22 ?e22 ?k22 ?a23 ?l23 ?e23 ?k23 ?a24 ?l24 ?e24 ?k24 ?a25 ?l25 ?e25 ?k25 ?a26 ?l26 ?e26 ?k26 ?a27 ?l27 ?e27 ?k27 ?a28 ?l28 ?e28 ?k28 ?a29 ?l29 ?e29 ?k29 ?a30 ?l30 ?e30 ?k30 ?a31 ?l31 ?e31 ?k31 ?a32 ?l32 ?e32 ?k32 ?a33 ?l33 ?e33 ?k33 ?a34 ?l34 ?e34 ?k34 ?a35 ?l35 ?e35 ?k35 ?a36 ?l36 ?e36 ?k36 ?a37 ?l37 ?e37 ?k37 ?a38 ?l38 ?e38 ?k38 ?a39 ?l39 ?e39 ?k39 ?a40 ?l40 ?e40 ?k40 ?a41 ?l41 ?e41 ?k41 ?a42 ?l42 ?e42 ?k42 ?a43 ?l43 ?e43 ?k43 ?a44 ?l44 ?e44 ?k44 ?a45 ?l45 ?e45 ?k45 ?z_any ?z_bool ?z_dict ?z_enumerate ?z_int ?z_isinstance ?z_len ?z_list ?z_range ?z_set ?z_str ?z_tuple ?z_zip ?g_TREES ?L_TREES ?lo_TREES ?L_TREES_0 ?L_TREES_1 ?L_TREES_2 ?L_TREES_3 ?L_TREES_4 ?L_TREES_5 ?L_TREES_6 ?L_TREES_7 ?L_TREES_8 ?L_TREES_9 ?L_TREES_10 ?L_TREES_11 ?L_TREES_12 ?L_TREES_13 ?L_TREES_14 ?g_PATTERNS ?L_PATTERNS ?lo_PATTERNS ?L_PATTERNS_0 ?L_PATTERNS_1 ?L_PATTERNS_2 ?L_PATTERNS_3 ?g_SPANS ?L_SPANS ?lo_SPANS ?L_SPANS_0 ?L_SPANS_1 ?L_SPANS_2 ?L_SPANS_3 ?L_SPANS_4 ?L_SPANS_5 ?L_SPANS_6 ?L_SPANS_7 ?L_SPANS_8 ?L_SPANS_9 ?L_SPANS_10 ?L_SPANS_11 ?L_SPANS_12 ?g_LEAVES ?L_LEAVES ?lo_LEAVES ?g_OWN_WORDS ?L_OWN_WORDS ?lo_OWN_WORDS ?g_SMALL_LETTERS ?g_CAPITALS ?g_DIGITS ?g_SIGNS ?L_SIGNS ?g_gcd ?cn ?ct ?x_ByZero ?k_ByZero ?b_ByZero ?t_ByZero ?i_ByZero ?sC_ByZero ?c1_Ratio ?c2_Ratio ?c3_Ratio ?c4_Ratio ?mk1_Ratio ?mk2_Ratio ?mk3_Ratio ?ca_Ratio ?cm_Ratio ?sf_Ratio ?sub_Ratio ?iC_Ratio ?tC_Ratio ?nf_Ratio_int ?ki_Ratio_int ?nf_Ratio_bool ?ki_Ratio_bool ?nf_Ratio_NoneType ?ki_Ratio_NoneType ?nf_Ratio_str ?ki_Ratio_str ?nf_Ratio_tuple ?ki_Ratio_tuple ?nf_Ratio_list ?ki_Ratio_list ?nf_Ratio_dict ?ki_Ratio_dict ?so_Ratio_tuple ?so_Ratio_str ?so_Ratio_int ?so_Ratio_bool ?na_Ratio_top ?na_Ratio_bottom ?fn_Ratio_init
    (case aC_KindError => k_is)
    (case aC_ByZero => k_is)
    (case aC_Ratio => k_is)
    (case a0 => k_is)
    (case l0 => k_is)
    (case e0 => k_is)
    (case k0 => k_is)
    (case a1 => k_is)
    (case l1 => k_is)
    (case e1 => k_is)
    (case k1 => k_is)
    (case a2 => k_is)
    (case l2 => k_is)
    (case e2 => k_is)
    (case k2 => k_is)
    (case a3 => k_is)
    (case l3 => k_is)
    (case e3 => k_is)
    (case k3 => k_is)
    (case a4 => k_is)
    (case l4 => k_is)
    (case e4 => k_is)
    (case k4 => k_is)
    (case a5 => k_is)
    (case l5 => k_is)
    (case e5 => k_is)
    (case k5 => k_is)
    (case a6 => k_is)
    (case l6 => k_is)
    (case e6 => k_is)
    (case k6 => k_is)
    (case a7 => k_is)
    (case l7 => k_is)
    (case e7 => k_is)
    (case k7 => k_is)
    (case a8 => k_is)
    (case l8 => k_is)
    (case e8 => k_is)
    (case k8 => k_is)
    (case a9 => k_is)
    (case l9 => k_is)
    (case e9 => k_is)
    (case k9 => k_is)
    (case a10 => k_is)
    (case l10 => k_is)
    (case e10 => k_is)
    (case k10 => k_is)
    (case a11 => k_is)
    (case l11 => k_is)
    (case e11 => k_is)
    (case k11 => k_is)
    (case a12 => k_is)
    (case l12 => k_is)
    (case e12 => k_is)
    (case k12 => k_is)
    (case a13 => k_is)
    (case l13 => k_is)
    (case e13 => k_is)
    (case k13 => k_is)
    (case a14 => k_is)
    (case l14 => k_is)
    (case e14 => k_is)
    (case k14 => k_is)
    (case a15 => k_is)
    (case l15 => k_is)
    (case ld15 => k_is)
    (case e15 => k_is)
    (case k15 => k_is)
    (case a16 => k_is)
    (case l16 => k_is)
    (case e16 => k_is)
    (case k16 => k_is)
    (case a17 => k_is)
    (case l17 => k_is)
    (case e17 => k_is)
    (case k17 => k_is)
    (case a18 => k_is)
    (case l18 => k_is)
    (case e18 => k_is)
    (case k18 => k_is)
    (case a19 => k_is)
    (case l19 => k_is)
    (case e19 => k_is)
    (case k19 => k_is)
    (case a20 => k_is)
    (case l20 => k_is)
    (case e20 => k_is)
    (case k20 => k_is)
    (case a21 => k_is)
    (case l21 => k_is)
    (case e21 => k_is)
    (case k21 => k_is)
    (case a22 => k_is)
    (case l22 => k_is)
    (case e22 => k_is)
    (case k22 => k_is)
    (case a23 => k_is)
    (case l23 => k_is)
    (case e23 => k_is)
    (case k23 => k_is)
    (case a24 => k_is)
    (case l24 => k_is)
    (case e24 => k_is)
    (case k24 => k_is)
    (case a25 => k_is)
    (case l25 => k_is)
    (case e25 => k_is)
    (case k25 => k_is)
    (case a26 => k_is)
    (case l26 => k_is)
    (case e26 => k_is)
    (case k26 => k_is)
    (case a27 => k_is)
    (case l27 => k_is)
    (case e27 => k_is)
    (case k27 => k_is)
    (case a28 => k_is)
    (case l28 => k_is)
    (case e28 => k_is)
    (case k28 => k_is)
    (case a29 => k_is)
    (case l29 => k_is)
    (case e29 => k_is)
    (case k29 => k_is)
    (case a30 => k_is)
    (case l30 => k_is)
    (case e30 => k_is)
    (case k30 => k_is)
    (case a31 => k_is)
    (case l31 => k_is)
    (case e31 => k_is)
    (case k31 => k_is)
    (case a32 => k_is)
    (case l32 => k_is)
    (case e32 => k_is)
    (case k32 => k_is)
    (case a33 => k_is)
    (case l33 => k_is)
    (case e33 => k_is)
    (case k33 => k_is)
    (case a34 => k_is)
    (case l34 => k_is)
    (case e34 => k_is)
    (case k34 => k_is)
    (case a35 => k_is)
    (case l35 => k_is)
    (case e35 => k_is)
    (case k35 => k_is)
    (case a36 => k_is)
    (case l36 => k_is)
    (case e36 => k_is)
    (case k36 => k_is)
    (case a37 => k_is)
    (case l37 => k_is)
    (case e37 => k_is)
    (case k37 => k_is)
    (case a38 => k_is)
    (case l38 => k_is)
    (case e38 => k_is)
    (case k38 => k_is)
    (case a39 => k_is)
    (case l39 => k_is)
    (case e39 => k_is)
    (case k39 => k_is)
    (case a40 => k_is)
    (case l40 => k_is)
    (case e40 => k_is)
    (case k40 => k_is)
    (case a41 => k_is)
    (case l41 => k_is)
    (case e41 => k_is)
    (case k41 => k_is)
    (case a42 => k_is)
    (case l42 => k_is)
    (case e42 => k_is)
    (case k42 => k_is)
    (case a43 => k_is)
    (case l43 => k_is)
    (case e43 => k_is)
    (case k43 => k_is)
    (case a44 => k_is)
    (case l44 => k_is)
    (case e44 => k_is)
    (case k44 => k_is)
    (case a45 => k_is)
    (case l45 => k_is)
    (case e45 => k_is)
    (case k45 => k_is)
    (case z_any => k_is)
    (case z_bool => k_is)
    (case z_dict => k_is)
    (case z_enumerate => k_is)
    (case z_int => k_is)
    (case z_isinstance => k_is)
    (case z_len => k_is)
    (case z_list => k_is)
    (case z_range => k_is)
    (case z_set => k_is)
    (case z_str => k_is)
    (case z_tuple => k_is)
    (case z_zip => k_is)
    (case g_TREES => k_is)
    (case L_TREES => k_is)
    (case lo_TREES => exact rfl)
    (case L_TREES_0 => k_is)
    (case L_TREES_1 => k_is)
    (case L_TREES_2 => k_is)
    (case L_TREES_3 => k_is)
    (case L_TREES_4 => k_is)
    (case L_TREES_5 => k_is)
    (case L_TREES_6 => k_is)
    (case L_TREES_7 => k_is)
    (case L_TREES_8 => k_is)
    (case L_TREES_9 => k_is)
    (case L_TREES_10 => k_is)
    (case L_TREES_11 => k_is)
    (case L_TREES_12 => k_is)
    (case L_TREES_13 => k_is)
    (case L_TREES_14 => k_is)
    (case g_PATTERNS => k_is)
    (case L_PATTERNS => k_is)
    (case lo_PATTERNS => exact rfl)
    (case L_PATTERNS_0 => k_is)
    (case L_PATTERNS_1 => k_is)
    (case L_PATTERNS_2 => k_is)
    (case L_PATTERNS_3 => k_is)
    (case g_SPANS => k_is)
    (case L_SPANS => k_is)
    (case lo_SPANS => exact rfl)
    (case L_SPANS_0 => k_is)
    (case L_SPANS_1 => k_is)
    (case L_SPANS_2 => k_is)
    (case L_SPANS_3 => k_is)
    (case L_SPANS_4 => k_is)
    (case L_SPANS_5 => k_is)
    (case L_SPANS_6 => k_is)
    (case L_SPANS_7 => k_is)
    (case L_SPANS_8 => k_is)
    (case L_SPANS_9 => k_is)
    (case L_SPANS_10 => k_is)
    (case L_SPANS_11 => k_is)
    (case L_SPANS_12 => k_is)
    (case g_LEAVES => k_is)
    (case L_LEAVES => k_is)
    (case lo_LEAVES => exact rfl)
    (case g_OWN_WORDS => k_is)
    (case L_OWN_WORDS => k_is)
    (case lo_OWN_WORDS => exact rfl)
    (case g_SMALL_LETTERS => k_is)
    (case g_CAPITALS => k_is)
    (case g_DIGITS => k_is)
    (case g_SIGNS => k_is)
    (case L_SIGNS => k_is)
    (case g_gcd => k_is)
    (case cn => k_is)
    (case ct => k_is)
    (case x_ByZero => k_exc)
    (case k_ByZero => k_is)
    (case b_ByZero => k_is)
    (case t_ByZero => k_is)
    (case i_ByZero => k_is)
    (case sC_ByZero => first | rfl | k_is)
    (case c1_Ratio => k_is)
    (case c2_Ratio => k_is)
    (case c3_Ratio => k_is)
    (case c4_Ratio => k_is)
    (case mk1_Ratio => k_is)
    (case mk2_Ratio => k_is)
    (case mk3_Ratio => k_is)
    (case ca_Ratio => k_is)
    (case cm_Ratio => k_is)
    (case sf_Ratio => k_is)
    (case sub_Ratio => k_is)
    (case iC_Ratio => k_is)
    (case tC_Ratio => k_is)
    (case nf_Ratio_int => k_is)
    (case ki_Ratio_int => k_is)
    (case nf_Ratio_bool => k_is)
    (case ki_Ratio_bool => k_is)
    (case nf_Ratio_NoneType => k_is)
    (case ki_Ratio_NoneType => k_is)
    (case nf_Ratio_str => k_is)
    (case ki_Ratio_str => k_is)
    (case nf_Ratio_tuple => k_is)
    (case ki_Ratio_tuple => k_is)
    (case nf_Ratio_list => k_is)
    (case ki_Ratio_list => k_is)
    (case nf_Ratio_dict => k_is)
    (case ki_Ratio_dict => k_is)
    (case so_Ratio_tuple => k_is)
    (case so_Ratio_str => k_is)
    (case so_Ratio_int => k_is)
    (case so_Ratio_bool => k_is)
    (case na_Ratio_top => k_is)
    (case na_Ratio_bottom => k_is)
    (case fn_Ratio_init => k_is)
