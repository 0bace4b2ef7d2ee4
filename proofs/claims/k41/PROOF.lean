import PyProof.Rows.All
import Wide.All
import OpenK.AllK
import Wide.FinOn
import HandS.Base
import HandS.Call
import HandS.List
import HandS.Comp
import HandS.Ends
import HandS.Dict
import HandS.Iter
import HandS.Text
import HandS.Words
import HandS.WordsList
import HandS.Codes
import PySem.Challenge.RW_aheadbook_k41_whole_rows_told_one_behind
import HandS.Style
import HandS.TupAny
import KE.SortData
import PyProof.EnumMake
import PyProof.Draws
import KE.GoesMore
import HandS.IsInst
import HandS.DictComp
import HandS.Strs
import HandS.DictSub
import HandS.Deep
import HandS.Flow
import KE.DataCmp
import KE.KDictSum
import HandS.Conv
import PyProof.DictFindH
import KE.SortKeyHeap
import KE.KSortKey
import HandS.SortKw
import KE.KDictKeyed
import KE.KDictCopyH
set_option Elab.async false
set_option linter.all false
set_option maxRecDepth 100000
set_option maxHeartbeats 2000000
namespace Ah
open PySem PySem.Spec PyProof.Rows L2
/-! ### heaps that keep all but one object -/
def Kp (p : Addr) (H H' : Hp) : Prop := ∀ b o, b ≠ p → H b = some o → H' b = some o
theorem Kp.refl (p : Addr) (H : Hp) : Kp p H H := fun _ _ _ h => h
theorem Kp.trans {p : Addr} {H H1 H2 : Hp} (a : Kp p H H1) (b : Kp p H1 H2) : Kp p H H2 := fun c o n h => b c o n (a c o n h)
theorem Kp.same {p : Addr} {H H' : Hp} (a : Same H H') : Kp p H H' := fun c o _ h => a c o h
theorem Kp.new {p q : Addr} {H : Hp} {o : HO} (h : H q = none) : Kp p H (upd H q o) := fun b x _ e => by
  rw [upd_ne (ne_of_none e h)]
  exact e
theorem Kp.put {p : Addr} {H : Hp} {o : HO} : Kp p H (upd H p o) := fun b x n e => by
  rw [upd_ne n]
  exact e
/-- what is not tracked at first may change -/
theorem Kp.mut {p q : Addr} {H H' : Hp} {o : HO} (k : Kp p H H') (h : H q = none) : Kp p H (upd H' q o) := fun b x n e => by
  rw [upd_ne (ne_of_none e h)]
  exact k b x n e
theorem same_new {q : Addr} {H : Hp} {o : HO} (h : H q = none) : Same H (upd H q o) := fun b x e => by
  rw [upd_ne (ne_of_none e h)]
  exact e
theorem same_mut {q : Addr} {H H' : Hp} {o : HO} (k : Same H H') (h : H q = none) : Same H (upd H' q o) := fun b x e => by
  rw [upd_ne (ne_of_none e h)]
  exact k b x e
theorem rd_kp {p a : Addr} {u : HO} {H H' : Hp} (k : Kp p H H') {kvs : List (Key × V)} (hp : H p = some (.dK kvs)) (hu : ∀ kvs, u ≠ .dK kvs) (h : Rd H a u) : Rd H' a u := by
  rcases h with h | ⟨o, h⟩
  · refine .inl (k a _ (fun e => ?_) h)
    rw [e, hp] at h
    exact hu _ (Option.some.inj h).symm
  · refine .inr ⟨o, k a _ (fun e => ?_) h⟩
    rw [e, hp] at h
    cases h
theorem seq_kp {K : PySem.W.Frag} {p a : Addr} {xs : List V} {H H' : Hp} (k : Kp p H H') {kvs : List (Key × V)} (hp : H p = some (.dK kvs)) (h : SqL K H a xs) : SqL K H' a xs := by
  rcases h with h | h
  · exact .inl (rd_kp k hp (fun _ z => by cases z) h)
  · exact .inr h
theorem tup_kp {K : PySem.W.Frag} {p a : Addr} {xs : List V} {H H' : Hp} (k : Kp p H H') {kvs : List (Key × V)} (hp : H p = some (.dK kvs)) (h : SqT K H a xs) : SqT K H' a xs := by
  rcases h with h | h
  · exact .inl (rd_kp k hp (fun _ z => by cases z) h)
  · exact .inr h
theorem tup_same {K : PySem.W.Frag} {a : Addr} {xs : List V} {H H' : Hp} (k : Same H H') (h : SqT K H a xs) : SqT K H' a xs := by
  rcases h with (h | ⟨o, h⟩) | h
  · exact .inl (.inl (k _ _ h))
  · exact .inl (.inr ⟨o, k _ _ h⟩)
  · exact .inr h
/-! ### the pen -/
def penK (c : Addr) (a l : Int) : List (Key × V) := [(.inr "cells", .ref c), (.inr "at", .int a), (.inr "left", .int l)]
def PenAt (H : Hp) (p c : Addr) (n : Nat) : Prop := ∃ (ns : List Int) (a l : Int), H p = some (.dK (penK c a l)) ∧ H c = some (.lst (ns.map V.int)) ∧ 0 ≤ a ∧ a ≤ n ∧ 0 ≤ l
theorem k_ca : ¬ (("cells" : Str) = "at") := by decide +kernel
theorem k_cl : ¬ (("cells" : Str) = "left") := by decide +kernel
theorem k_al : ¬ (("at" : Str) = "left") := by decide +kernel
theorem pen_cells (c : Addr) (a l : Int) : valV (penK c a l) (.inr "cells" : Key) = some (.ref c) := valV_pos rfl
theorem pen_at (c : Addr) (a l : Int) : valV (penK c a l) (.inr "at" : Key) = some (.int a) := (valV_neg fun e => k_ca (Sum.inr.inj e)).trans (valV_pos rfl)
theorem pen_left (c : Addr) (a l : Int) : valV (penK c a l) (.inr "left" : Key) = some (.int l) := (valV_neg fun e => k_cl (Sum.inr.inj e)).trans ((valV_neg fun e => k_al (Sum.inr.inj e)).trans (valV_pos rfl))
theorem pen_putAt (c : Addr) (a l b : Int) : putK (penK c a l) (.inr "at" : Key) (.int b) = penK c b l := by
  have h : ((penK c a l).any fun kv => decide (kv.1 = (.inr "at" : Key))) = true := by rw [valV_any, pen_at]; rfl
  unfold putK
  rw [if_pos h]
  show [if (Sum.inr ("cells" : Str) : Key) = Sum.inr ("at" : Str) then ((Sum.inr ("cells" : Str) : Key), V.int b) else (Sum.inr ("cells" : Str), V.ref c), if (Sum.inr ("at" : Str) : Key) = Sum.inr ("at" : Str) then ((Sum.inr ("at" : Str) : Key), V.int b) else (Sum.inr ("at" : Str), V.int a), if (Sum.inr ("left" : Str) : Key) = Sum.inr ("at" : Str) then ((Sum.inr ("left" : Str) : Key), V.int b) else (Sum.inr ("left" : Str), V.int l)] = penK c b l
  rw [if_neg (fun e => k_ca (Sum.inr.inj e)), if_pos rfl, if_neg (fun e => k_al (Sum.inr.inj e).symm)]
  rfl
theorem pen_putLeft (c : Addr) (a l b : Int) : putK (penK c a l) (.inr "left" : Key) (.int b) = penK c a b := by
  have h : ((penK c a l).any fun kv => decide (kv.1 = (.inr "left" : Key))) = true := by rw [valV_any, pen_left]; rfl
  unfold putK
  rw [if_pos h]
  show [if (Sum.inr ("cells" : Str) : Key) = Sum.inr ("left" : Str) then ((Sum.inr ("cells" : Str) : Key), V.int b) else (Sum.inr ("cells" : Str), V.ref c), if (Sum.inr ("at" : Str) : Key) = Sum.inr ("left" : Str) then ((Sum.inr ("at" : Str) : Key), V.int b) else (Sum.inr ("at" : Str), V.int a), if (Sum.inr ("left" : Str) : Key) = Sum.inr ("left" : Str) then ((Sum.inr ("left" : Str) : Key), V.int b) else (Sum.inr ("left" : Str), V.int l)] = penK c a b
  rw [if_neg (fun e => k_cl (Sum.inr.inj e)), if_neg (fun e => k_al (Sum.inr.inj e)), if_pos rfl]
  rfl
theorem PenAt.mono {H : Hp} {p c : Addr} {n m : Nat} (h : PenAt H p c n) (hm : n ≤ m) : PenAt H p c m := by
  obtain ⟨ns, a, l, h1, h2, h3, h4, h5⟩ := h
  exact ⟨ns, a, l, h1, h2, h3, by omega, h5⟩
theorem PenAt.keep {H H' : Hp} {p c : Addr} {n : Nat} (h : PenAt H p c n) (k : Same H H') : PenAt H' p c n := by
  obtain ⟨ns, a, l, h1, h2, h3, h4, h5⟩ := h
  exact ⟨ns, a, l, k _ _ h1, k _ _ h2, h3, h4, h5⟩
theorem PenAt.dk {H : Hp} {p c : Addr} {n : Nat} (h : PenAt H p c n) : ∃ kvs : List (Key × V), H p = some (.dK kvs) := by
  obtain ⟨ns, a, l, h1, _⟩ := h
  exact ⟨_, h1⟩
/-- an object that was not there when the pen stood is changed -/
theorem PenAt.mut {H H' : Hp} {p c q : Addr} {n m : Nat} {o : HO} (h : PenAt H p c n) (hq : H q = none) (h' : PenAt H' p c m) : PenAt (upd H' q o) p c m := by
  obtain ⟨_, _, _, g1, g2, _⟩ := h
  obtain ⟨ns, a, l, h1, h2, h3, h4, h5⟩ := h'
  exact ⟨ns, a, l, (upd_ne (ne_of_none g1 hq)).trans h1, (upd_ne (ne_of_none g2 hq)).trans h2, h3, h4, h5⟩
theorem Kp.free {H H' : Hp} {p c q : Addr} {n : Nat} (k : Kp p H H') (hp : PenAt H' p c n) (h : H' q = none) : H q = none := by
  obtain ⟨kvs, hk⟩ := hp.dk
  have nq : q ≠ p := fun e => by
    rw [e, hk] at h
    cases h
  cases e : H q with
  | none => rfl
  | some o =>
    rw [k q o nq e] at h
    cases h
/-! ### equal data -/
theorem dp_ints {K : PySem.W.Frag} {H : Hp} : ∀ ns : List Int, DpAll K H (ns.map V.int) (ns.map PyData.int)
  | [] => .nil
  | n :: ns => .cons (.int n) (dp_ints ns)
theorem dp_strs {K : PySem.W.Frag} {H : Hp} : ∀ ns : List Str, DpAll K H (ns.map V.str) (ns.map PyData.str)
  | [] => .nil
  | n :: ns => .cons (.str n) (dp_strs ns)
theorem lay_ints : ∀ ns : List Int, PyData.canLayAll0 (ns.map PyData.int) = true ∧ PyData.depthAll (ns.map PyData.int) ≤ 1
  | [] => ⟨rfl, by simp [PyData.depthAll]⟩
  | n :: ns => by
    obtain ⟨h1, h2⟩ := lay_ints ns
    refine ⟨by simp [PyData.canLayAll0, PyData.canLay0, h1], ?_⟩
    simp only [List.map_cons, PyData.depthAll, PyData.depth]
    omega
theorem lay_strs : ∀ ns : List Str, (∀ x ∈ ns, PyData.strOk x = true) → PyData.canLayAll0 (ns.map PyData.str) = true ∧ PyData.depthAll (ns.map PyData.str) ≤ 1
  | [], _ => ⟨rfl, by simp [PyData.depthAll]⟩
  | n :: ns, h => by
    obtain ⟨h1, h2⟩ := lay_strs ns fun x hx => h x (List.mem_cons_of_mem _ hx)
    refine ⟨by simp [PyData.canLayAll0, PyData.canLay0, h1, h n List.mem_cons_self], ?_⟩
    simp only [List.map_cons, PyData.depthAll, PyData.depth]
    omega
theorem shp_list {ds : List PyData} (h : PyData.canLayAll0 ds = true) (hd : PyData.depthAll ds ≤ 63) : SeqAt.shaped (.list ds) = true := by
  unfold SeqAt.shaped
  simp only [PyData.canLay0, PyData.depth, h, Bool.true_and]
  exact decide_eq_true (by omega)
theorem shp_tup {ds : List PyData} (h : PyData.canLayAll0 ds = true) (hd : PyData.depthAll ds ≤ 63) : SeqAt.shaped (.tuple ds) = true := by
  unfold SeqAt.shaped
  simp only [PyData.canLay0, PyData.depth, h, Bool.true_and]
  exact decide_eq_true (by omega)
theorem shp_ints (ns : List Int) : SeqAt.shaped (.list (ns.map PyData.int)) = true := shp_list (lay_ints ns).1 (Nat.le_trans (lay_ints ns).2 (by decide))
theorem shp_strs {ns : List Str} (h : ∀ x ∈ ns, PyData.strOk x = true) : SeqAt.shaped (.list (ns.map PyData.str)) = true := shp_list (lay_strs ns h).1 (Nat.le_trans (lay_strs ns h).2 (by decide))
theorem shp_strsT {ns : List Str} (h : ∀ x ∈ ns, PyData.strOk x = true) : SeqAt.shaped (.tuple (ns.map PyData.str)) = true := shp_tup (lay_strs ns h).1 (Nat.le_trans (lay_strs ns h).2 (by decide))
theorem shp_nil : SeqAt.shaped (.list []) = true := shp_list rfl (by simp [PyData.depthAll])
theorem eqv_nil {α : Type} (f : α → PyData) (ns : List α) : PyData.eqv (.list (ns.map f)) (.list []) = ns.isEmpty := by
  cases ns with
  | nil => simp [PyData.eqv, PyData.eqvAll]
  | cons n ns => simp [PyData.eqv, PyData.eqvAll]
end Ah
set_option Elab.async false
set_option linter.all false
set_option maxRecDepth 100000
set_option maxHeartbeats 2000000
namespace Ah
open PySem PySem.Spec PyProof.Rows L2
def topS (i : Nat) : Stmt := PySem.Challenge.pw_aheadbook_k41_whole_rows_told_one_behind.main.body.getD i (.Pass ⟨0, 0, 0, 0⟩)
abbrev sDraw : Stmt := topS 25
/-- the built-in names that the text uses -/
structure Blt (mg : Str → Option Value) : Prop where
  len : mg "len" = none
  abs : mg "abs" = none
  list : mg "list" = none
theorem dg_left {H : Hp} {p c : Addr} {a l : Int} (h : H p = some (.dK (penK c a l))) : DGet H p (.str "left") (some (.int l)) := by
  have q := DGet.k (k := (Sum.inr ("left" : Str) : Key)) h
  rw [pen_left] at q
  exact q
theorem dg_at {H : Hp} {p c : Addr} {a l : Int} (h : H p = some (.dK (penK c a l))) : DGet H p (.str "at") (some (.int a)) := by
  have q := DGet.k (k := (Sum.inr ("at" : Str) : Key)) h
  rw [pen_at] at q
  exact q
theorem dg_cells {H : Hp} {p c : Addr} {a l : Int} (h : H p = some (.dK (penK c a l))) : DGet H p (.str "cells") (some (.ref c)) := by
  have q := DGet.k (k := (Sum.inr ("cells" : Str) : Key)) h
  rw [pen_cells] at q
  exact q
theorem dp_left {H : Hp} {p c : Addr} {a l b : Int} (h : H p = some (.dK (penK c a l))) : DPut H p (.str "left") (.int b) (upd H p (.dK (penK c a b))) := by
  have q := DPut.k (k := (Sum.inr ("left" : Str) : Key)) (v := V.int b) h (by show 3 < sizeLine; decide)
  rw [pen_putLeft] at q
  exact q
theorem dp_at {H : Hp} {p c : Addr} {a l b : Int} (h : H p = some (.dK (penK c a l))) : DPut H p (.str "at") (.int b) (upd H p (.dK (penK c b l))) := by
  have q := DPut.k (k := (Sum.inr ("at" : Str) : Key)) (v := V.int b) h (by show 3 < sizeLine; decide)
  rw [pen_putAt] at q
  exact q
theorem blend_lt {x m : Int} (h : 0 < m) : 0 ≤ x % m ∧ x % m < m := ⟨Int.emod_nonneg _ (by omega), Int.emod_lt_of_pos _ h⟩
section
variable {P : Program} {w : World} {K : PySem.W.Frag} {mg : Str → Option Value} {base : Heap}
theorem scDraw : FnScope ["pen", "many", "digit", "at", "cell", "blend"] ["pen", "many"] (defScope sDraw) := ⟨rfl, rfl, rfl, by decide +kernel, rfl, by decide +kernel, by decide +kernel⟩
def spDraw : Sp := fun vs H Q _ => ∃ (p c : Addr) (m : Int) (n : Nat), vs = [.ref p, .int m] ∧ PenAt H p c n ∧ n < 1000000 ∧ 0 < m ∧ m < 1073741824 ∧
  ∀ (d : Int) (H' : Hp), 0 ≤ d → d < m → PenAt H' p c (n + 1) → Kp p H H' → Q (.int d) H'
theorem ok_draw {f : Addr} {fd : FuncData} (F : Fun K "_law_draw" "_law_draw" sDraw f fd) (B : Blt mg) : FnOk P w K mg base CX0 1 f fd ["pen", "many"] spDraw := by
  refine F.ok scDraw (fun vs H Q E h => ?_) (fun cdv A outer s H vs Q E hr h => ?_)
  · obtain ⟨p, c, m, n, rfl, _⟩ := h
    rfl
  · obtain ⟨p, c, m, n, rfl, ⟨ns, a, l, hp, hc, a0, an, l0⟩, hn, m0, m1, k⟩ := h
    have hu := hu_of hr
    have nd := scDraw.nd
    have ncp : c ≠ p := fun e => by
      rw [e, hp] at hc
      cases hc
    refine ⟨_, pss_cons (ps_if (pt_cmpR op_gt (pe_dget hu (pv 0) pe_str (fun _ _ => rfl)) pe_int (nomark _))
        (pss_cons (ps_set (i := 2) nd rfl (.inl rfl) (pe_op op_mod (pe_dget hu (pv 0) pe_str (fun _ _ => rfl)) (pv 1)))
        (pss_cons (ps_dput hu (pv 0) pe_str (pe_op op_fdiv (pe_dget hu (pv 0) pe_str (fun _ _ => rfl)) (pv 1)) rfl)
        (pss_one (ps_ret (pv 2))))) pss_nil)
      (pss_cons (ps_set (i := 3) nd rfl (.inl rfl) (pe_dget hu (pv 0) pe_str (fun _ _ => rfl)))
      (pss_cons (ps_dput hu (pv 0) pe_str (pe_op op_add (pv 3) pe_int) rfl)
      (pss_cons (ps_set (i := 4) nd rfl (.inl rfl) (pe_op op_add (pe_op op_mul pe_int (pv 3)) pe_int))
      (C8.pss_cut (ps_if (pt_cmpR (op_neD hr.units) (pe_dget hu (pv 0) pe_str (fun _ _ => rfl)) (pe_lst pa_nil) (nomark _))
        (pss_one (ps_set (i := 4) nd rfl (.inl rfl) (pe_ix ix_list (pe_dget hu (pv 0) pe_str (fun _ _ => rfl)) (pe_op op_mod (pv 3) (pe_callB call_len_seq (by rfl) B.len PySem.boot_len (pa_cons (pe_dget hu (pv 0) pe_str (fun _ _ => rfl)) pa_nil))) (fun _ _ => rfl)))) pss_nil)
      (C8.pss_cut (ps_if (PW.pt (pw_and (pt_cmpR op_lt (pv 3) (pe_callB call_len_seq (by rfl) B.len PySem.boot_len (pa_cons (pe_dget hu (pv 0) pe_str (fun _ _ => rfl)) pa_nil)) (nomark _))
            (pw_and1 (pt_cmpR op_ge (pe_callB call_abs (by rfl) B.abs (by decide +kernel) (pa_cons (pv 4) pa_nil)) (pe_op op_pow pe_int pe_int) (nomark _)))))
        (pss_cons (ps_dput hu (pv 0) pe_str (pe_op op_fdiv (pe_op op_sub (pe_callB call_abs (by rfl) B.abs (by decide +kernel) (pa_cons (pv 4) pa_nil)) (pe_op op_pow pe_int pe_int)) (pv 1)) rfl)
        (pss_one (ps_ret (pe_op op_mod (pe_op op_sub (pe_callB call_abs (by rfl) B.abs (by decide +kernel) (pa_cons (pv 4) pa_nil)) (pe_op op_pow pe_int pe_int)) (pv 1))))) pss_nil)
      (pss_cons (ps_set (i := 5) nd rfl (.inl rfl) (pe_op op_mod (pe_op op_add (pe_op op_add (pe_op op_add (pe_op op_mul (pe_op op_mod (pv 4) pe_int) pe_int) (pe_op op_mul (pe_op op_mul pe_int (pv 3)) (pv 3))) (pe_op op_mul pe_int (pv 3))) pe_int) pe_int))
      (pss_cons (ps_set (i := 5) nd rfl (.inl rfl) (pe_op op_mod (pe_op op_add (pe_op op_add (pe_op op_add (pe_op op_mul (pv 5) (pv 5)) (pe_op op_mul pe_int (pv 5))) (pe_op op_mul pe_int (pv 3))) pe_int) pe_int))
      (pss_one (ps_ret (pe_op op_mod (pe_op op_fdiv (pe_op op_mod (pe_op op_mul (pv 5) (pe_op op_add (pv 5) pe_int)) pe_int) pe_int) (pv 1))))))))))), ?_⟩
    -- if pen['left'] > 0
    refine ⟨_, rfl, p, _, rfl, dg_left hp, _, _, rfl, rfl, _, rfl, ?_⟩
    refine ite2 (fun e => ?_) (fun e => ?_)
    · have e : 0 < l := of_decide_eq_true e
      refine ⟨_, rfl, p, _, rfl, dg_left hp, _, rfl, _, _, rfl, rfl, m0, ?_⟩
      refine ⟨_, rfl, p, _, rfl, dg_left hp, _, rfl, _, _, rfl, rfl, ⟨m0, m1⟩, _, rfl, p, _, rfl, dp_left hp, ?_⟩
      refine ⟨_, rfl, k _ _ (blend_lt m0).1 (blend_lt m0).2 ⟨ns, a, l / m, upd_same, (upd_ne ncp).trans hc, a0, by omega, Int.ediv_nonneg l0 (by omega)⟩ Kp.put⟩
    -- at = pen['at']; pen['at'] = at + 1
    refine ⟨_, rfl, p, _, rfl, dg_at hp, ?_⟩
    refine ⟨_, rfl, _, _, rfl, rfl, _, rfl, p, _, rfl, dp_at hp, ?_⟩
    have hp1 : (upd H p (.dK (penK c (a + 1) l))) p = some (.dK (penK c (a + 1) l)) := upd_same
    have hc1 : (upd H p (.dK (penK c (a + 1) l))) c = some (.lst (ns.map V.int)) := (upd_ne ncp).trans hc
    have k1 : Kp p H (upd H p (.dK (penK c (a + 1) l))) := Kp.put
    generalize upd H p (.dK (penK c (a + 1) l)) = H1 at hp1 hc1 k1 ⊢
    -- cell = 17 * at + 3
    refine ⟨_, rfl, _, _, rfl, rfl, .inl (by omega), _, _, rfl, rfl, ?_⟩
    -- if pen['cells'] != []
    refine ⟨fun σ' H' => ∃ cell : Int, σ' = [some (.ref p), some (.int m), none, some (.int a), some (.int cell), none] ∧ H' p = some (.dK (penK c (a + 1) l)) ∧ H' c = some (.lst (ns.map V.int)) ∧ Kp p H H', ?_, ?_⟩
    · refine ⟨_, rfl, p, _, rfl, dg_cells hp1, Nat.zero_le _, fun q hq => ?_⟩
      have hp2 : (upd H1 q (.lst [])) p = some (.dK (penK c (a + 1) l)) := (upd_ne (ne_of_none hp1 hq)).trans hp1
      have hc2 : (upd H1 q (.lst [])) c = some (.lst (ns.map V.int)) := (upd_ne (ne_of_none hc1 hq)).trans hc1
      have hq2 : (upd H1 q (.lst [])) q = some (.lst []) := upd_same
      have k2 : Kp p H (upd H1 q (.lst [])) := k1.trans (Kp.new hq)
      generalize upd H1 q (.lst []) = H2 at hp2 hc2 hq2 k2 ⊢
      refine ⟨.list (ns.map PyData.int), .list [], .lst (SqL.of hc2) (dp_ints ns), .lst (SqL.of hq2) .nil, shp_ints ns, shp_nil, _, rfl, ?_⟩
      rw [eqv_nil]
      refine ite2 (fun e => ?_) (fun e => ⟨_, rfl, hp2, hc2, k2⟩)
      have hne : 0 < ns.length := by
        cases ns with
        | nil => cases e
        | cons x r => exact Nat.succ_pos _
      have hlen : (0 : Int) < ((ns.map V.int).length : Int) := by
        rw [List.length_map]
        omega
      have hm := blend_lt (x := a) hlen
      rw [List.length_map] at hm
      obtain ⟨j, hj⟩ : ∃ j : Nat, (a % (ns.length : Int)) = (j : Int) := ⟨(a % (ns.length : Int)).toNat, by omega⟩
      have hjl : j < ns.length := by omega
      refine ⟨_, rfl, p, _, rfl, dg_cells hp2, _, rfl, _, rfl, p, _, rfl, dg_cells hp2, c, _, rfl, .inl (SqL.of hc2), _, _, rfl, rfl, hlen, c, ns.map V.int, _, .int (ns[j]), rfl, rfl, SqL.of hc2, ?_, ⟨_, rfl, hp2, hc2, k2⟩⟩
      rw [List.length_map, hj]
      refine atI_nat ?_
      rw [List.getElem?_map, List.getElem?_eq_getElem hjl]
      rfl
    rintro σ' H2 ⟨cell, rfl, hp2, hc2, k2⟩
    have fin : ∀ (H' : Hp) (b : Int), 0 ≤ b → H' p = some (.dK (penK c (a + 1) b)) → H' c = some (.lst (ns.map V.int)) → PenAt H' p c (n + 1) := fun H' b hb q1 q2 => ⟨ns, a + 1, b, q1, q2, by omega, by omega, hb⟩
    -- if at < len(pen['cells']) and abs(cell) >= 10 ** 18
    refine ⟨fun σ' H' => σ' = [some (.ref p), some (.int m), none, some (.int a), some (.int cell), none] ∧ H' = H2, ?_, ?_⟩
    · refine ⟨_, rfl, _, rfl, p, _, rfl, dg_cells hp2, c, _, rfl, .inl (SqL.of hc2), _, _, rfl, rfl, _, rfl, ?_⟩
      refine ite2 (fun e1 => ?_) (fun e1 => iteF ⟨rfl, rfl⟩)
      refine ⟨_, rfl, cell, rfl, _, _, rfl, rfl, ⟨by decide, by decide, by decide⟩, _, _, rfl, rfl, _, rfl, ?_⟩
      refine ite2 (fun e2 => ?_) (fun e2 => ⟨rfl, rfl⟩)
      have e2 : (10 : Int) ^ (18 : Int).toNat ≤ (if cell < 0 then -cell else cell) := of_decide_eq_true e2
      refine ⟨_, rfl, cell, rfl, _, _, rfl, rfl, ⟨by decide, by decide, by decide⟩, _, _, rfl, rfl, _, rfl, _, _, rfl, rfl, ⟨m0, m1⟩, _, rfl, p, _, rfl, dp_left hp2, ?_⟩
      refine ⟨_, rfl, cell, rfl, _, _, rfl, rfl, ⟨by decide, by decide, by decide⟩, _, _, rfl, rfl, _, rfl, _, _, rfl, rfl, m0, ?_⟩
      exact k _ _ (blend_lt m0).1 (blend_lt m0).2 (fin _ _ (Int.ediv_nonneg (by omega) (by omega)) upd_same ((upd_ne ncp).trans hc2)) (k2.trans Kp.put)
    rintro σ' H3 ⟨rfl, rfl⟩
    -- the blends
    have b0 := blend_lt (x := cell) (m := 2147483659) (by decide)
    refine ⟨_, rfl, _, _, rfl, rfl, (by show (0 : Int) < 2147483659; decide), _, _, rfl, rfl, .inl (by show -(2 ^ 64) < cell % 2147483659 ∧ cell % 2147483659 < 2 ^ 64; omega), _, rfl, _, _, rfl, rfl, .inl (by decide), _, rfl, _, _, rfl, rfl, .inl (by omega), _, _, rfl, rfl, _, rfl, _, _, rfl, rfl, .inl (by decide), _, _, rfl, rfl, _, _, rfl, rfl, _, _, rfl, rfl, (by show (0 : Int) < 2147483693; decide), ?_⟩
    have b1 := blend_lt (x := cell % 2147483659 * 48271 + 30011 * a * a + 12289 * a + 7) (m := 2147483693) (by decide)
    obtain ⟨x, hx⟩ : ∃ x, x = (cell % 2147483659 * 48271 + 30011 * a * a + 12289 * a + 7) % 2147483693 := ⟨_, rfl⟩
    rw [← hx] at b1
    dsimp only
    rw [← hx]
    refine ⟨_, rfl, _, rfl, _, _, rfl, rfl, .inl (by omega), _, rfl, _, _, rfl, rfl, .inl (by decide), _, _, rfl, rfl, _, rfl, _, _, rfl, rfl, .inl (by decide), _, _, rfl, rfl, _, _, rfl, rfl, _, _, rfl, rfl, (by show (0 : Int) < 2147483713; decide), ?_⟩
    have b2 := blend_lt (x := x * x + 16807 * x + 5 * a + 1) (m := 2147483713) (by decide)
    obtain ⟨y, hy⟩ : ∃ y, y = (x * x + 16807 * x + 5 * a + 1) % 2147483713 := ⟨_, rfl⟩
    rw [← hy] at b2
    dsimp only
    rw [← hy]
    refine ⟨_, rfl, _, rfl, _, _, rfl, rfl, _, _, rfl, rfl, .inl (by omega), _, _, rfl, rfl, (by show (0 : Int) < 2147483743; decide), _, _, rfl, rfl, ⟨by decide, by decide⟩, _, rfl, _, _, rfl, rfl, m0, ?_⟩
    exact k _ _ (blend_lt m0).1 (blend_lt m0).2 (fin _ l l0 hp2 hc2) k2
end
end Ah
set_option Elab.async false
set_option linter.all false
set_option maxRecDepth 100000
set_option maxHeartbeats 2000000
namespace Ah
open PySem PySem.Spec PyProof.Rows L2
/-! ### data over heaps -/
/-- what data lean on: lists and tuples that are to be read -/
def Sq (K : PySem.W.Frag) (H H' : Hp) : Prop := (∀ a xs, SqL K H a xs → SqL K H' a xs) ∧ ∀ a xs, SqT K H a xs → SqT K H' a xs
theorem Sq.kp {K : PySem.W.Frag} {p : Addr} {H H' : Hp} (k : Kp p H H') {kvs : List (Key × V)} (hp : H p = some (.dK kvs)) : Sq K H H' := ⟨fun _ _ h => seq_kp k hp h, fun _ _ h => tup_kp k hp h⟩
theorem Sq.same {K : PySem.W.Frag} {H H' : Hp} (k : Same H H') : Sq K H H' := ⟨fun _ _ h => k.seq h, fun _ _ h => tup_same k h⟩
mutual
theorem dp_sq {K : PySem.W.Frag} {H H' : Hp} (k : Sq K H H') : ∀ (d : PyData) (v : V), Dp K H v d → Dp K H' v d
  | .none, _, h => by
    cases h
    exact .non
  | .bool b, _, h => by
    cases h
    exact .bl b
  | .int i, _, h => by
    cases h
    exact .int i
  | .str x, _, h => by
    cases h
    exact .str x
  | .list ds, _, h => by
    cases h with
    | lst hs ha => exact .lst (k.1 _ _ hs) (dpAll_sq k ds _ ha)
  | .tuple ds, _, h => by
    cases h with
    | tup hs ha => exact .tup (k.2 _ _ hs) (dpAll_sq k ds _ ha)
  | .dict _, _, h => by cases h
theorem dpAll_sq {K : PySem.W.Frag} {H H' : Hp} (k : Sq K H H') : ∀ (ds : List PyData) (vs : List V), DpAll K H vs ds → DpAll K H' vs ds
  | [], _, h => by
    cases h
    exact .nil
  | d :: ds, _, h => by
    cases h with
    | cons h1 h2 => exact .cons (dp_sq k d _ h1) (dpAll_sq k ds _ h2)
end
def Shp (d : PyData) : Prop := d.canLay0 = true ∧ d.depth ≤ 60
theorem shp_all : ∀ {ds : List PyData}, (∀ d ∈ ds, Shp d) → PyData.canLayAll0 ds = true ∧ PyData.depthAll ds ≤ 60
  | [], _ => ⟨rfl, by simp [PyData.depthAll]⟩
  | d :: ds, h => by
    obtain ⟨h1, h2⟩ := shp_all fun x hx => h x (List.mem_cons_of_mem _ hx)
    obtain ⟨h3, h4⟩ := h d List.mem_cons_self
    refine ⟨by simp [PyData.canLayAll0, h1, h3], ?_⟩
    simp only [PyData.depthAll]
    omega
theorem shp_l {ds : List PyData} (h : ∀ d ∈ ds, Shp d) : SeqAt.shaped (.list ds) = true := shp_list (shp_all h).1 (Nat.le_trans (shp_all h).2 (by decide))
theorem shp_t {ds : List PyData} (h : ∀ d ∈ ds, Shp d) : SeqAt.shaped (.tuple ds) = true := shp_tup (shp_all h).1 (Nat.le_trans (shp_all h).2 (by decide))
theorem shp_str {x : Str} (h : PyData.strOk x = true) : Shp (.str x) := ⟨by simp [PyData.canLay0, h], by simp [PyData.depth]⟩
theorem dpAll_len {K : PySem.W.Frag} {H : Hp} : ∀ {vs : List V} {ds : List PyData}, DpAll K H vs ds → vs.length = ds.length
  | _, _, .nil => rfl
  | _, _, .cons _ t => by rw [List.length_cons, List.length_cons, dpAll_len t]
theorem dpAll_erase {K : PySem.W.Frag} {H : Hp} : ∀ {vs : List V} {ds : List PyData} (i : Nat), DpAll K H vs ds → DpAll K H (vs.eraseIdx i) (ds.eraseIdx i)
  | _, _, _, .nil => .nil
  | _, _, 0, .cons _ t => t
  | _, _, i + 1, .cons h t => .cons h (dpAll_erase i t)
theorem eqv_nils {ds : List PyData} : PyData.eqv (.list ds) (.list []) = ds.isEmpty := by
  cases ds with
  | nil => simp [PyData.eqv, PyData.eqvAll]
  | cons n ns => simp [PyData.eqv, PyData.eqvAll]
/-! ### a def, as its callers see it -/
structure Df (P : Program) (w : World) (K : PySem.W.Frag) (mg : Str → Option Value) (base : Heap) (CX : CXT) (x : Str) (k : Nat) (f : Addr) (fd : FuncData) (ps : List Str) (sp : Sp) : Prop where
  ok : FnOk P w K mg base CX k f fd ps sp
  g : mg x = some (.ref f)
  kp : PySem.W.keepIn K (.ref f) = true
  b : Binds K fd ps []
/-- a sequence of values: a list, a tuple, a text's signs -/
def Seqv (K : PySem.W.Frag) (H : Hp) (x : V) (ys : List V) : Prop := (∃ a, x = .ref a ∧ SqL K H a ys) ∨ (∃ a, x = .ref a ∧ SqT K H a ys) ∨ ∃ z : Str, x = .str z ∧ z.length ≤ sizeLine ∧ ys = z.cps.toList.map fun c => V.str ⟨#[c]⟩
theorem Seqv.sq {K : PySem.W.Frag} {H H' : Hp} {x : V} {ys : List V} (k : Sq K H H') (h : Seqv K H x ys) : Seqv K H' x ys := by
  rcases h with ⟨a, e, h⟩ | ⟨a, e, h⟩ | h
  · exact .inl ⟨a, e, k.1 _ _ h⟩
  · exact .inr (.inl ⟨a, e, k.2 _ _ h⟩)
  · exact .inr (.inr h)
theorem Seqv.len {K : PySem.W.Frag} {H : Hp} {x : V} {ys : List V} (h : Seqv K H x ys) : LenV K x H ys.length := by
  rcases h with ⟨a, rfl, h⟩ | ⟨a, rfl, h⟩ | ⟨z, rfl, hz, rfl⟩
  · exact .inl ⟨ys, h, rfl⟩
  · exact .inr ⟨ys, h, rfl⟩
  · exact ⟨hz, by rw [List.length_map, Array.length_toList]; rfl⟩
theorem perm_erase {α : Type} : ∀ {l : List α} {i : Nat} (h : i < l.length), (l[i] :: l.eraseIdx i).Perm l
  | x :: l, 0, _ => List.Perm.refl _
  | x :: l, i + 1, h => by
    have ih := perm_erase (l := l) (i := i) (Nat.lt_of_succ_lt_succ h)
    show (l[i]'(Nat.lt_of_succ_lt_succ h) :: x :: l.eraseIdx i).Perm (x :: l)
    exact (List.Perm.swap _ _ _).trans (ih.cons x)
theorem seqIx {j n : Nat} (h : j < n) : seqIndex? (j : Int) n = some j := by
  unfold seqIndex?
  simp
  omega
abbrev sPick : Stmt := topS 26
abbrev sShuf : Stmt := topS 27
section
variable {P : Program} {w : World} {K : PySem.W.Frag} {mg : Str → Option Value} {base : Heap}
theorem scPick : FnScope ["pen", "some"] ["pen", "some"] (defScope sPick) := ⟨rfl, rfl, rfl, by decide +kernel, rfl, by decide +kernel, by decide +kernel⟩
def spPick (K : PySem.W.Frag) : Sp := fun vs H Q _ => ∃ (p c : Addr) (x : V) (ys : List V) (n : Nat), vs = [.ref p, x] ∧ Seqv K H x ys ∧ PenAt H p c n ∧ n < 1000000 ∧ 0 < ys.length ∧ ys.length < 1000000 ∧
  ∀ (i : Nat) (y : V) (H' : Hp), ys[i]? = some y → PenAt H' p c (n + 1) → Kp p H H' → Q y H'
theorem ok_pick {f f1 : Addr} {fd fd1 : FuncData} (F : Fun K "_law_pick" "_law_pick" sPick f fd) (B : Blt mg) (D : Df P w K mg base CX0 "_law_draw" 1 f1 fd1 ["pen", "many"] spDraw) : FnOk P w K mg base CX0 2 f fd ["pen", "some"] (spPick K) := by
  refine F.ok scPick (fun vs H Q E h => ?_) (fun cdv A outer s H vs Q E hr h => ?_)
  · obtain ⟨p, c, x, ys, n, rfl, _⟩ := h
    rfl
  · obtain ⟨p, c, x, ys, n, rfl, hx, hp, hn, h0, h1, k⟩ := h
    refine ⟨_, pss_one (ps_ret (pe_ix ix_seq (pv 1) (pe_call D.ok hr rfl D.g D.kp D.b .nil pass0 (pa_cons (pv 0) (pa_cons (pe_callB call_len (by rfl) B.len PySem.boot_len (pa_cons (pv 1) pa_nil)) pa_nil))) (fun _ _ => rfl))), ?_⟩
    refine ⟨_, rfl, _, rfl, x, rfl, x, _, rfl, hx.len, p, c, _, n, rfl, hp, hn, by omega, by omega, fun d H' d0 d1 hp' kp => ?_⟩
    obtain ⟨kvs, hk⟩ := hp.dk
    have hx' := hx.sq (Sq.kp kp hk)
    obtain ⟨j, rfl⟩ : ∃ j : Nat, d = j := ⟨d.toNat, by omega⟩
    have hj : j < ys.length := by omega
    have hjj : ys[j]? = some ys[j] := List.getElem?_eq_getElem hj
    rcases hx' with ⟨a, e, h⟩ | ⟨a, e, h⟩ | ⟨z, e, hz, rfl⟩
    · exact .inl ⟨a, ys, _, _, e, rfl, h, atI_nat hjj, k j _ _ hjj hp' kp⟩
    · exact .inr (.inl ⟨a, ys, _, _, e, rfl, h, atI_nat hjj, k j _ _ hjj hp' kp⟩)
    · obtain ⟨b, hc, ec⟩ : ∃ b, z.cps.toList[j]? = some b ∧ V.str ⟨#[b]⟩ = (z.cps.toList.map fun c => V.str ⟨#[c]⟩)[j] := by
        rw [List.length_map] at hj
        refine ⟨z.cps.toList[j], List.getElem?_eq_getElem hj, by rw [List.getElem_map]⟩
      refine .inr (.inr ⟨z, _, b, e, rfl, hz, ?_, ?_⟩)
      · unfold atI
        unfold ixN
        rw [if_pos (by omega)]
        rw [List.length_map] at hj
        rw [if_pos (by omega)]
        exact hc
      · rw [ec]
        exact k j _ _ hjj hp' kp
theorem scShuf : FnScope ["pen", "some", "left", "found"] ["pen", "some"] (defScope sShuf) := ⟨rfl, rfl, rfl, by decide +kernel, rfl, by decide +kernel, by decide +kernel⟩
def spShuf (K : PySem.W.Frag) : Sp := fun vs H Q _ => ∃ (p c a : Addr) (xs : List V) (ds : List PyData) (n : Nat), vs = [.ref p, .ref a] ∧ (SqL K H a xs ∨ SqT K H a xs) ∧ DpAll K H xs ds ∧ (∀ d ∈ ds, Shp d) ∧ xs.length ≤ 1000 ∧ PenAt H p c n ∧ n + xs.length < 1000000 ∧
  ∀ (q : Addr) (ys : List V) (H' : Hp), ys.Perm xs → H q = none → H' q = some (.lst ys) → PenAt H' p c (n + xs.length) → Kp p H H' → Q (.ref q) H'
theorem ok_shuf {f f1 : Addr} {fd fd1 : FuncData} (F : Fun K "_law_shuffled" "_law_shuffled" sShuf f fd) (B : Blt mg) (D : Df P w K mg base CX0 "_law_draw" 1 f1 fd1 ["pen", "many"] spDraw) : FnOk P w K mg base CX0 2 f fd ["pen", "some"] (spShuf K) := by
  refine F.ok scShuf (fun vs H Q E h => ?_) (fun cdv A outer s H vs Q E hr h => ?_)
  · obtain ⟨p, c, a, xs, ds, n, rfl, _⟩ := h
    rfl
  · obtain ⟨p, c, a, xs, ds, n, rfl, hx, hd, hs, h0, hp, hn, k⟩ := h
    have nd := scShuf.nd
    refine ⟨_, pss_cons (ps_par (i := 2) (j := 3) rfl nd rfl rfl (by decide) rfl rfl (pa_cons (pe_callTy call_list_of (by rfl) B.list (by decide +kernel) (pa_cons (pv 1) pa_nil)) (pa_cons (pe_lst pa_nil) pa_nil)) (by rfl))
      (pss_cons (ps_while PassesOwn.never (pt_cmpR (op_neD hr.units) (pv 2) (pe_lst pa_nil) (nomark _))
        (pss_one (ps_expr (pe_bm PySem.F.plainAttrs_list PySem.F.slot_list_append PySem.F.type_list_append mt_append (pv 3) (pa_cons (pe_bm PySem.F.plainAttrs_list PySem.F.slot_list_pop PySem.F.type_list_pop mt_popAt (pv 2)
          (pa_cons (pe_call D.ok hr rfl D.g D.kp D.b .nil pass0 (pa_cons (pv 0) (pa_cons (pe_callB call_len_seq (by rfl) B.len PySem.boot_len (pa_cons (pv 2) pa_nil)) pa_nil))) pa_nil)) pa_nil)))))
      (pss_one (ps_ret (pv 3)))), ?_⟩
    obtain ⟨kvs, hk⟩ := hp.dk
    refine ⟨_, rfl, a, xs, rfl, hx, fun l hl => ?_⟩
    have ha1 : Same H (upd H l (.lst xs)) := same_new hl
    have e1 : (upd H l (.lst xs)) l = some (.lst xs) := upd_same
    generalize upd H l (.lst xs) = H1 at ha1 e1 ⊢
    refine ⟨Nat.zero_le _, fun g hg => ?_⟩
    have ha2 : Same H (upd H1 g (.lst [])) := ha1.trans (same_new hg)
    have e2 : (upd H1 g (.lst [])) l = some (.lst xs) := (upd_ne (ne_of_none e1 hg)).trans e1
    have e3 : (upd H1 g (.lst [])) g = some (.lst []) := upd_same
    have nlg : l ≠ g := ne_of_none e1 hg
    have hg0 : H g = none := ha1.free hg
    generalize upd H1 g (.lst []) = H2 at ha2 e2 e3 ⊢
    refine ⟨_, _, rfl, ?_⟩
    -- the loop
    refine ⟨fun m σ H' => ∃ (us ys : List V) (es : List PyData), m = us.length ∧ σ = [some (.ref p), some (.ref a), some (.ref l), some (.ref g)] ∧ H' l = some (.lst us) ∧ H' g = some (.lst ys) ∧ (ys ++ us).Perm xs ∧ DpAll K H us es ∧ (∀ d ∈ es, Shp d) ∧ PenAt H' p c (n + ys.length) ∧ Kp p H H',
      ⟨_, xs, [], ds, rfl, rfl, e2, e3, List.Perm.refl _, hd, hs, hp.keep ha2, Kp.same ha2⟩, ?_⟩
    rintro m σ H3 ⟨us, ys, es, rfl, rfl, f2, f3, pm, hdu, hsu, hp3, kp3⟩
    have len := pm.length_eq
    rw [List.length_append] at len
    refine ⟨_, rfl, Nat.zero_le _, fun t ht => ?_⟩
    have g2 : (upd H3 t (.lst [])) l = some (.lst us) := (upd_ne (ne_of_none f2 ht)).trans f2
    have g3 : (upd H3 t (.lst [])) g = some (.lst ys) := (upd_ne (ne_of_none f3 ht)).trans f3
    have gt : (upd H3 t (.lst [])) t = some (.lst []) := upd_same
    have hp4 := hp3.keep (same_new (o := .lst []) ht)
    have kp4 : Kp p H (upd H3 t (.lst [])) := kp3.trans (Kp.new ht)
    generalize upd H3 t (.lst []) = H4 at g2 g3 gt hp4 kp4 ⊢
    have hdu4 : DpAll K H4 us es := dpAll_sq (Sq.kp kp4 hk) _ _ hdu
    refine ⟨.list es, .list [], .lst (SqL.of g2) hdu4, .lst (SqL.of gt) .nil, shp_l hsu, shp_nil, _, rfl, ?_⟩
    rw [eqv_nils]
    have eil := dpAll_len hdu
    refine ite2 (fun e => ?_) (fun e => ?_)
    · have hne : 0 < us.length := by
        cases es with
        | nil => cases e
        | cons x r =>
          rw [eil]
          exact Nat.succ_pos _
      refine ⟨fun σ' H' => ∃ (us' ys' : List V) (es' : List PyData), us'.length < us.length ∧ σ' = [some (.ref p), some (.ref a), some (.ref l), some (.ref g)] ∧ H' l = some (.lst us') ∧ H' g = some (.lst ys') ∧ (ys' ++ us').Perm xs ∧ DpAll K H us' es' ∧ (∀ d ∈ es', Shp d) ∧ PenAt H' p c (n + ys'.length) ∧ Kp p H H',
        fun σ' H' ⟨us', ys', es', h1, h2, h3, h4, h5, h6, h7, h8, h9⟩ => ⟨_, h1, us', ys', es', rfl, h2, h3, h4, h5, h6, h7, h8, h9⟩, ?_⟩
      refine ⟨_, rfl, .inl ⟨rfl, _, SqL.of g3⟩, _, rfl, .inl ⟨rfl, _, SqL.of g2⟩, _, rfl, _, rfl, l, us, rfl, .inl (SqL.of g2), p, c, _, _, rfl, hp4, by omega, by omega, by omega, fun d H5 d0 d1 hp5 kp5 => ?_⟩
      obtain ⟨kvs4, hk4⟩ := hp4.dk
      have npl : l ≠ p := fun q => by
        rw [q, hk4] at g2
        cases g2
      have npg : g ≠ p := fun q => by
        rw [q, hk4] at g3
        cases g3
      have i2 : H5 l = some (.lst us) := kp5 _ _ npl g2
      have i3 : H5 g = some (.lst ys) := kp5 _ _ npg g3
      obtain ⟨j, rfl⟩ : ∃ j : Nat, d = j := ⟨d.toNat, by omega⟩
      have hj : j < us.length := by omega
      refine ⟨l, us, j, j, us[j], rfl, rfl, i2, by omega, by omega, ?_, List.getElem?_eq_getElem hj, ?_⟩
      · exact seqIx hj
      refine ⟨g, ys, us[j], rfl, rfl, (upd_ne nlg.symm).trans i3, ?_, ?_⟩
      · exact small1000 (by omega)
      refine ⟨us.eraseIdx j, ys ++ [us[j]], es.eraseIdx j, ?_, rfl, (upd_ne nlg).trans upd_same, upd_same, ?_, dpAll_erase j hdu, fun d hd => hsu d (List.eraseIdx_subset hd), ?_, ?_⟩
      · rw [List.length_eraseIdx, if_pos hj]
        omega
      · rw [List.append_assoc]
        exact (List.Perm.append_left ys (perm_erase hj)).trans pm
      · rw [List.length_append, List.length_singleton]
        exact hp.mut hg0 (hp.mut hl hp5)
      · exact (kp4.trans kp5).mut hl |>.mut hg0
    · have hne : us = [] := by
        cases es with
        | nil => exact List.length_eq_zero_iff.mp eil
        | cons x r => exact absurd rfl e
      subst hne
      rw [List.append_nil] at pm
      have q := hp4
      refine ⟨_, rfl, k g ys H4 pm hg0 g3 ?_ kp4⟩
      have : ys.length = xs.length := pm.length_eq
      rw [← this]
      exact hp4
end
end Ah
set_option Elab.async false
set_option linter.all false
set_option maxRecDepth 100000
set_option maxHeartbeats 2000000
namespace Ah
open PySem PySem.Spec PyProof.Rows L2
/-! ### hands -/
def IsHand (x : Str) : Prop := 1 ≤ x.length ∧ x.length ≤ 8 ∧ ∀ b ∈ x.cps.toList, 97 ≤ b ∧ b ≤ 122
instance (x : Str) : Decidable (IsHand x) := by unfold IsHand; infer_instance
theorem IsHand.ok {x : Str} (h : IsHand x) : PyData.strOk x = true := by
  unfold PyData.strOk
  rw [← Array.all_toList, List.all_eq_true]
  intro b hb
  have := h.2.2 b hb
  exact decide_eq_true (by omega)
def letters : Str := "abcdefghijklmnopqrstuvwxyz"
theorem letters_cs : letters.cps.toList = (List.range 26).map (· + 97) := by decide +kernel
def wordsT : Str := "let hands a ab abc abcd ann anna b ba lets hand z zz zzz le row rows an bar bars c ca"
def wordsL : List Str := ["let", "hands", "a", "ab", "abc", "abcd", "ann", "anna", "b", "ba", "lets", "hand", "z", "zz", "zzz", "le", "row", "rows", "an", "bar", "bars", "c", "ca"]
theorem words_split : Txt.split wordsT " " = wordsL := by decide +kernel
theorem words_nd : wordsL.Nodup := by decide +kernel
theorem words_hand : ∀ x ∈ wordsL, IsHand x := by decide +kernel
def bysL : List Int := [1, 3, 5, 7, 9, 11, 15, 17, 19, 21, 23, 25]
/-- the k-th hand -/
def handAt (B : List Nat) (at' first by' cut k : Nat) : Str := ⟨(B.take at' ++ [(first + by' * k) % 26 + 97] ++ (B.drop (at' + 1)).take (if cut = 0 then 8 else k % 3)).toArray⟩
theorem handAt_cs (B : List Nat) (a f b c k : Nat) : (handAt B a f b c k).cps.toList = B.take a ++ [(f + b * k) % 26 + 97] ++ (B.drop (a + 1)).take (if c = 0 then 8 else k % 3) := rfl
theorem handAt_is {B : List Nat} {a f b c k : Nat} (h1 : B.length ≤ 8) (h2 : ∀ x ∈ B, 97 ≤ x ∧ x ≤ 122) (ha : a < B.length) : IsHand (handAt B a f b c k) := by
  have hl : (handAt B a f b c k).length = (B.take a ++ [(f + b * k) % 26 + 97] ++ (B.drop (a + 1)).take (if c = 0 then 8 else k % 3)).length := by
    show ((B.take a ++ [(f + b * k) % 26 + 97] ++ (B.drop (a + 1)).take (if c = 0 then 8 else k % 3)).toArray).size = _
    rw [List.size_toArray]
  have hl2 : (handAt B a f b c k).length = a + 1 + min (if c = 0 then 8 else k % 3) (B.length - (a + 1)) := by
    rw [hl, List.length_append, List.length_append, List.length_take, List.length_take, List.length_drop, List.length_singleton]
    omega
  refine ⟨by omega, by omega, fun x hx => ?_⟩
  rw [handAt_cs] at hx
  rcases List.mem_append.mp hx with hx | hx
  · rcases List.mem_append.mp hx with hx | hx
    · exact h2 x (List.mem_of_mem_take hx)
    · rw [List.mem_singleton] at hx
      omega
  · exact h2 x (List.mem_of_mem_drop (List.mem_of_mem_take hx))
theorem handAt_inj {B : List Nat} {a f b c k k' : Nat} (ha : a < B.length) (hb : (b : Int) ∈ bysL) (h25 : b ≠ 25) (hk : k < 8) (hk' : k' < 8) (e : handAt B a f b c k = handAt B a f b c k') : k = k' := by
  have q := congrArg (fun x : Str => x.cps.toList[a]?) e
  have lt : (B.take a).length = a := by rw [List.length_take]; omega
  have g : ∀ k, (handAt B a f b c k).cps.toList[a]? = some ((f + b * k) % 26 + 97) := fun k => by
    rw [handAt_cs, List.append_assoc, List.getElem?_append_right (by omega), lt, Nat.sub_self]
    rfl
  have q : (handAt B a f b c k).cps.toList[a]? = (handAt B a f b c k').cps.toList[a]? := q
  rw [g, g] at q
  have q := Option.some.inj q
  have hb' : b = 1 ∨ b = 3 ∨ b = 5 ∨ b = 7 ∨ b = 9 ∨ b = 11 ∨ b = 15 ∨ b = 17 ∨ b = 19 ∨ b = 21 ∨ b = 23 := by
    simp only [bysL, List.mem_cons, List.not_mem_nil, or_false] at hb
    omega
  rcases hb' with h | h | h | h | h | h | h | h | h | h | h <;> subst h <;> omega
theorem handsAt_nd {g : Nat → Str} {m : Nat} (hm : m ≤ 8) (inj : ∀ k k', k < 8 → k' < 8 → g k = g k' → k = k') : ((List.range m).map g).Nodup := by
  unfold List.Nodup
  rw [List.pairwise_map]
  refine List.Pairwise.imp_of_mem (fun {k k'} hk hk' hne e => ?_) (List.nodup_range (n := m))
  rw [List.mem_range] at hk hk'
  exact hne (inj k k' (by omega) (by omega) e)
theorem nd_inj {α : Type} {l : List α} (h : l.Nodup) {i j : Nat} (hi : i < l.length) (hj : j < l.length) (e : l[i] = l[j]) : i = j := by
  rcases Nat.lt_trichotomy i j with c | c | c
  · exact absurd e (List.pairwise_iff_getElem.mp h i j hi hj c)
  · exact c
  · exact absurd e.symm (List.pairwise_iff_getElem.mp h j i hj hi c)
theorem cutS_cs (l : List Nat) (lo hi : Option Int) : cutS ⟨l.toArray⟩ lo hi = ⟨((l.drop (HT.sIx l.length 0 lo)).take (HT.sIx l.length l.length hi - HT.sIx l.length 0 lo)).toArray⟩ := by
  have e : (⟨l.toArray⟩ : Str).length = l.length := by
    show l.toArray.size = _
    rw [List.size_toArray]
  unfold cutS
  rw [e]
theorem str_app (a b : List Nat) : (⟨a.toArray⟩ : Str) ++ ⟨b.toArray⟩ = ⟨(a ++ b).toArray⟩ := SX.S_cat a b
theorem str_len (a : List Nat) : (⟨a.toArray⟩ : Str).length = a.length := SX.S_len a
theorem joinL_ones : ∀ bs : List Nat, TL.joinL [] (bs.map fun b => [b]) = bs
  | [] => rfl
  | [b] => rfl
  | b :: d :: r => by
    show [b] ++ ([] ++ TL.joinL [] ((d :: r).map fun b => [b])) = b :: d :: r
    rw [joinL_ones (d :: r)]
    rfl
theorem join_nil (bs : List Nat) : Txt.join ("" : Str) (bs.map fun b => (⟨#[b]⟩ : Str)) = ⟨bs.toArray⟩ := by
  have e := SX.join_S [] (bs.map fun b => [b])
  rw [joinL_ones, List.map_map] at e
  exact e
end Ah
set_option Elab.async false
set_option linter.all false
set_option maxRecDepth 100000
set_option maxHeartbeats 4000000
namespace Ah
open PySem PySem.Spec PyProof.Rows L2
abbrev sHands : Stmt := topS 28
section
variable {P : Program} {w : World} {K : PySem.W.Frag} {mg : Str → Option Value} {base : Heap}
theorem scHands : FnScope ["pen", "many", "letters", "k", "base", "at", "first", "cut", "by", "found", "some", "tail"] ["pen", "many"] (defScope sHands) := ⟨rfl, rfl, rfl, by decide +kernel, rfl, by decide +kernel, by decide +kernel⟩
def spHands (K : PySem.W.Frag) : Sp := fun vs H Q _ => ∃ (p c : Addr) (m n : Nat), vs = [.ref p, .int (m : Int)] ∧ 1 ≤ m ∧ m ≤ 8 ∧ PenAt H p c n ∧ n + 20 < 1000000 ∧
  ∀ (q : Addr) (hs : List Str) (H' : Hp), hs.length = m → hs.Nodup → (∀ h ∈ hs, IsHand h) → H q = none → H' q = some (.lst (hs.map V.str)) → PenAt H' p c (n + 20) → Kp p H H' → Q (.ref q) H'
theorem ok_hands {f f1 f2 : Addr} {fd fd1 fd2 : FuncData} (F : Fun K "_law_hands" "_law_hands" sHands f fd) (B : Blt mg) (Br : mg "range" = none) (D : Df P w K mg base CX0 "_law_draw" 1 f1 fd1 ["pen", "many"] spDraw) (D2 : Df P w K mg base CX0 "_law_pick" 2 f2 fd2 ["pen", "some"] (spPick K)) : FnOk P w K mg base CX0 3 f fd ["pen", "many"] (spHands K) := by
  refine F.ok scHands (fun vs H Q E h => ?_) (fun cdv A outer s H vs Q E hr h => ?_)
  · obtain ⟨p, c, m, n, rfl, _⟩ := h
    rfl
  · obtain ⟨p, c, m, n, rfl, m1, m8, hp, hn, k⟩ := h
    have nd := scHands.nd
    have hr1 : Room 1 _ := hr.mono (by decide)
    refine ⟨_, pss_cons (ps_set (i := 2) nd rfl (.inr rfl) pe_str)
      (C8.pss_cut (ps_set (i := 4) nd rfl (.inl rfl) (pe_join pe_str (pe_lc (own := [("k", 3)]) (g := gName 3) (tt := tYes) rfl nd (pi_range1 rfl Br (pa_cons (pe_op op_add pe_int (pe_call D.ok hr1 rfl D.g D.kp D.b .nil pass0 (pa_cons (pv 0) (pa_cons pe_int pa_nil)))) pa_nil))
          (blkOk_by (N := ["pen", "many", "letters", "k", "base", "at", "first", "cut", "by", "found", "some", "tail"]) (sc := defScope sHands) (by decide +kernel)) (fun _ _ _ _ _ => pg_name (i := 3) nd rfl (Or.inl rfl)) (fun _ _ _ _ _ => pts_nil)
          (fun _ _ _ _ _ => pe_call D2.ok hr rfl D2.g D2.kp D2.b .nil pass0 (pa_cons (pv 0) (pa_cons (pv 2) pa_nil))))))
      (pss_cons (ps_asg (pe_tup (pa_cons (pe_call D.ok hr1 rfl D.g D.kp D.b .nil pass0 (pa_cons (pv 0) (pa_cons (pe_callB call_len_str (by rfl) B.len PySem.boot_len (pa_cons (pv 4) pa_nil)) pa_nil)))
            (pa_cons (pe_call D.ok hr1 rfl D.g D.kp D.b .nil pass0 (pa_cons (pv 0) (pa_cons pe_int pa_nil))) (pa_cons (pe_call D.ok hr1 rfl D.g D.kp D.b .nil pass0 (pa_cons (pv 0) (pa_cons pe_int pa_nil))) pa_nil))))
          (pg_tup rfl (pgs_cons (pg_name (i := 5) nd rfl (.inl rfl)) (pgs_cons (pg_name (i := 6) nd rfl (.inr rfl)) (pgs_cons (pg_name (i := 7) nd rfl (.inl rfl)) pgs_nil)))))
      (pss_cons (ps_par (i := 8) (j := 9) rfl nd rfl rfl (by decide) rfl rfl (pa_cons (pe_call D2.ok hr rfl D2.g D2.kp D2.b .nil pass0 (pa_cons (pv 0) (pa_cons (pe_lst (pa_cons pe_int (pa_cons pe_int (pa_cons pe_int (pa_cons pe_int (pa_cons pe_int (pa_cons pe_int (pa_cons pe_int (pa_cons pe_int (pa_cons pe_int (pa_cons pe_int (pa_cons pe_int (pa_cons pe_int pa_nil))))))))))))) pa_nil)))
          (pa_cons (pe_lst pa_nil) pa_nil)) (by rfl))
      (pss_cons (ps_if (pt_cmpR op_eq (pv 8) pe_int (nomark _))
        (pss_cons (ps_set (i := 10) nd rfl (.inr rfl) pe_str)
        (pss_one (ps_ret (pe_lc (own := [("k", 3)]) (g := gName 3) (tt := tYes) rfl nd (pi_range1 rfl Br (pa_cons (pv 1) pa_nil))
          (blkOk_by (N := ["pen", "many", "letters", "k", "base", "at", "first", "cut", "by", "found", "some", "tail"]) (sc := defScope sHands) (by decide +kernel)) (fun _ _ _ _ _ => pg_name (i := 3) nd rfl (Or.inl rfl)) (fun _ _ _ _ _ => pts_nil)
          (fun _ _ _ _ _ => pe_ix (r := rIxL K) ix_list (pe_split (pv 10) pe_str) (pe_op op_mod (pe_op op_add (pv 6) (pe_op op_mul pe_int (pv 3))) pe_int) (fun _ _ => rfl)))))) pss_nil)
      (pss_cons (ps_for PassesOwn.never rfl (pi_range1 rfl Br (pa_cons (pv 1) pa_nil)) (pg_name (i := 3) nd rfl (.inl rfl))
        (pss_cons (ps_set (i := 11) nd rfl (.inl rfl) (pe_slice sl_str (pe_slice sl_str (pv 4) (po_some (pe_op op_add (pv 5) pe_int)) po_none) po_none (po_some (pe_ix ix_list (pe_lst (pa_cons pe_int (pa_cons (pe_op op_mod (pv 3) pe_int) pa_nil))) (pv 7) (fun _ _ => rfl)))))
        (pss_one (ps_expr (pe_bm PySem.F.plainAttrs_list PySem.F.slot_list_append PySem.F.type_list_append mt_append (pv 9) (pa_cons (pe_op op_add_str (pe_op op_add_str (pe_slice sl_str (pv 4) po_none (po_some (pv 5))) (pe_ix ix_str (pv 2) (pe_op op_mod (pe_op op_add (pv 6) (pe_op op_mul (pv 8) (pv 3))) pe_int) (fun _ _ => rfl))) (pv 11)) pa_nil))))))
      (pss_one (ps_ret (pv 9)))))))), ?_⟩
    -- base
    obtain ⟨kvs, hk⟩ := hp.dk
    refine ⟨fun σ' H' => ∃ bs : List Nat, 1 ≤ bs.length ∧ bs.length ≤ 8 ∧ (∀ b ∈ bs, 97 ≤ b ∧ b ≤ 122) ∧ σ' = [some (.ref p), some (.int m), some (.str letters), none, some (.str ⟨bs.toArray⟩), none, none, none, none, none, none, none] ∧ PenAt H' p c (n + 9) ∧ Kp p H H', ?_, ?_⟩
    · refine ⟨⟨_, rfl⟩, _, rfl, p, c, 8, n, rfl, hp, by omega, by decide, by decide, fun d H1 d0 d1 hp1 kp1 => ?_⟩
      obtain ⟨j, rfl⟩ : ∃ j : Nat, d = j := ⟨d.toNat, by omega⟩
      refine ⟨_, _, rfl, rfl, _, rfl, by omega, by omega, fun D0 hD => ?_⟩
      have hj : (1 + (j : Int)).toNat = j + 1 := by omega
      rw [hj]
      have hl1 := hp1
      refine lc_range (lo := 0) (n := j + 1) (fun i H2 => ∃ bs : List Nat, bs.length = i ∧ (∀ b ∈ bs, 97 ≤ b ∧ b ≤ 122) ∧ H2 D0 = some (.lst ((bs.map fun b => (⟨#[b]⟩ : Str)).map V.str)) ∧ PenAt H2 p c (n + 1 + i) ∧ Kp p H H2)
        ⟨[], rfl, by simp, upd_same, hp1.keep (same_new hD), kp1.trans (Kp.new hD)⟩ ?_ ?_
      · rintro i H2 hi ⟨bs, rfl, hb, h2, hp2, kp2⟩
        refine ⟨rfl, _, rfl, _, rfl, p, c, .str letters, _, n + 1 + bs.length, rfl, .inr (.inr ⟨letters, rfl, by decide +kernel, rfl⟩), hp2, by omega, ?_, ?_, ?_⟩
        · decide +kernel
        · decide +kernel
        rintro i y H3 hy hp3 kp3
        obtain ⟨b, hb1, rfl⟩ : ∃ b, (97 ≤ b ∧ b ≤ 122) ∧ y = V.str ⟨#[b]⟩ := by
          rw [letters_cs, List.getElem?_map] at hy
          obtain ⟨z, hz, rfl⟩ := Option.map_eq_some_iff.mp hy
          have := List.mem_of_getElem? hz
          rw [List.mem_map] at this
          obtain ⟨u, hu, rfl⟩ := this
          rw [List.mem_range] at hu
          exact ⟨_, by omega, rfl⟩
        obtain ⟨kvs2, hk2⟩ := hp2.dk
        have nD : D0 ≠ p := fun q => by
          rw [q, hk2] at h2
          cases h2
        refine ⟨_, kp3 _ _ nD h2, ?_, bs ++ [b], by simp, ?_, ?_, ?_, ?_⟩
        · rw [List.length_map, List.length_map]
          exact small1000 (by omega)
        · intro x hx
          rcases List.mem_append.mp hx with hx | hx
          · exact hb x hx
          · rw [List.mem_singleton.mp hx]
            exact hb1
        · rw [upd_same, List.map_append, List.map_append]
          rfl
        · exact hp1.mut hD hp3
        · exact (kp2.trans kp3).mut (kp1.free hp1 hD)
      · rintro H2 ⟨bs, hl, hb, h2, hp2, kp2⟩
        refine ⟨_, D0, bs.map fun b => (⟨#[b]⟩ : Str), rfl, rfl, .inl (SqL.of h2), ?_, bs, by omega, by omega, hb, ?_, hp2.mono (by omega), kp2⟩
        · have e1 : ∀ l : List Nat, ((l.map fun b => (⟨#[b]⟩ : Str)).map (·.length)).sum = l.length := fun l => by
            induction l with
            | nil => rfl
            | cons x r ih =>
              rw [List.map_cons, List.map_cons, List.sum_cons, ih, List.length_cons]
              show 1 + r.length = r.length + 1
              omega
          rw [e1, List.length_map]
          have e2 : ("" : Str).length = 0 := by decide +kernel
          rw [e2]
          omega
        · rw [join_nil]
          rfl
    rintro σ' H1 ⟨bs, b1, b8, hb, rfl, hp1, kp1⟩
    -- at, first, cut
    have lb : (⟨bs.toArray⟩ : Str).length = bs.length := by
      show bs.toArray.size = _
      rw [List.size_toArray]
    refine ⟨_, rfl, _, rfl, _, rfl, by rw [lb]; exact Nat.le_trans b8 (by decide), p, c, _, _, rfl, hp1, by omega, by rw [lb]; omega, by rw [lb]; omega, fun at' H2 a0 a1 hp2 kp2 => ?_⟩
    refine ⟨_, rfl, p, c, _, _, rfl, hp2, by omega, by decide, by decide, fun first H3 f0 f1 hp3 kp3 => ?_⟩
    refine ⟨_, rfl, p, c, _, _, rfl, hp3, by omega, by decide, by decide, fun cut H4 c0 c1 hp4 kp4 => ?_⟩
    refine ⟨(by show 3 ≤ sizeLine; decide), fun t ht => ?_⟩
    refine ⟨t, _, rfl, .inl (.inl upd_same), rfl, _, _, rfl, _, _, rfl, _, _, rfl, rfl, ?_⟩
    have kp5 : Kp p H (upd H4 t (.tup [.int at', .int first, .int cut])) := ((kp1.trans kp2).trans (kp3.trans kp4)).trans (Kp.new ht)
    have hp5 := hp4.keep (same_new (o := .tup [.int at', .int first, .int cut]) ht)
    generalize upd H4 t (.tup [.int at', .int first, .int cut]) = H5 at kp5 hp5 ⊢
    rw [lb] at a1
    obtain ⟨a, rfl⟩ : ∃ j : Nat, at' = j := ⟨at'.toNat, by omega⟩
    obtain ⟨fi, rfl⟩ : ∃ j : Nat, first = j := ⟨first.toNat, by omega⟩
    obtain ⟨cu, rfl⟩ : ∃ j : Nat, cut = j := ⟨cut.toNat, by omega⟩
    -- by, found
    refine ⟨_, rfl, (by show 12 ≤ sizeLine; decide), fun t2 ht2 => ?_⟩
    have hp6 := hp5.keep (same_new (o := .lst (bysL.map V.int)) ht2)
    have kp6 := kp5.trans (Kp.new (o := .lst (bysL.map V.int)) ht2)
    refine ⟨p, c, .ref t2, bysL.map V.int, _, rfl, .inl ⟨t2, rfl, SqL.of upd_same⟩, hp6, by omega, (by decide), (by decide), fun i y H7 hy hp7 kp7 => ?_⟩
    obtain ⟨b, hb25, rfl⟩ : ∃ b : Nat, (b : Int) ∈ bysL ∧ y = V.int b := by
      rw [List.getElem?_map] at hy
      obtain ⟨z, hz, rfl⟩ := Option.map_eq_some_iff.mp hy
      have hm := List.mem_of_getElem? hz
      have z0 : 0 ≤ z := by
        have : ∀ z ∈ bysL, (0 : Int) ≤ z := by decide
        exact this z hm
      exact ⟨z.toNat, by rw [Int.toNat_of_nonneg z0]; exact hm, by rw [Int.toNat_of_nonneg z0]⟩
    have b26 : b < 26 := by
      have : ∀ z ∈ bysL, z < (26 : Int) := by decide
      have := this _ hb25
      omega
    refine ⟨Nat.zero_le _, fun g hg => ?_⟩
    have hp8 := hp7.keep (same_new (o := .lst []) hg)
    have kp8 := (kp6.trans kp7).trans (Kp.new (o := .lst []) hg)
    have g0 : H g = none := (kp6.trans kp7).free hp7 hg
    have e8 : (upd H7 g (.lst [])) g = some (.lst []) := upd_same
    generalize upd H7 g (.lst []) = H8 at hp8 kp8 e8 ⊢
    refine ⟨_, _, rfl, ?_⟩
    -- if by == 25
    refine ⟨_, rfl, rfl, _, rfl, ?_⟩
    refine ite2 (fun e => ?_) (fun e => ?_)
    · -- the words
      refine ⟨_, rfl, _, rfl, by omega, by omega, fun D0 hD => ?_⟩
      rw [Int.toNat_natCast]
      have hD0 : H D0 = none := kp8.free hp8 hD
      refine lc_range (lo := 0) (n := m) (fun i H2 => H2 D0 = some (.lst (((List.range i).map fun k => wordsL.getD ((fi + 5 * k) % 23) "").map V.str)) ∧ PenAt H2 p c (n + 20) ∧ Kp p H H2)
        ⟨upd_same, (hp8.keep (same_new hD)).mono (by omega), kp8.trans (Kp.new hD)⟩ ?_ ?_
      · rintro i H2 hi ⟨h2, hp2, kp2⟩
        refine ⟨rfl, _, rfl, ⟨_, rfl⟩, _, _, rfl, rfl, rfl, by decide +kernel, fun t hT => ?_⟩
        have hx : ((fi : Int) + 5 * (0 + (i : Int))) % 23 = (((fi + 5 * i) % 23 : Nat) : Int) := by omega
        have hl : (fi + 5 * i) % 23 < wordsL.length := Nat.mod_lt _ (by decide)
        refine ⟨_, rfl, _, rfl, _, _, rfl, rfl, .inl (by decide), _, _, rfl, rfl, _, _, rfl, rfl, (by show (0 : Int) < 23; decide), t, wordsL.map V.str, _, .str (wordsL.getD ((fi + 5 * i) % 23) ""), rfl, rfl, ?_, ?_, ?_⟩
        · rw [← words_split]
          exact SqL.of upd_same
        · rw [hx]
          refine atI_nat ?_
          rw [List.getElem?_map, List.getElem?_eq_getElem hl, List.getD_eq_getElem?_getD, List.getElem?_eq_getElem hl]
          rfl
        · refine ⟨_, (upd_ne (ne_of_none h2 hT)).trans h2, ?_, ?_, ?_, ?_⟩
          · rw [List.length_map, List.length_map, List.length_range]
            exact small1000 (by omega)
          · rw [upd_same, List.range_succ, List.map_append, List.map_append]
            rfl
          · exact hp.mut hD0 (hp2.keep (same_new hT))
          · exact (kp2.trans (Kp.new hT)).mut hD0
      · rintro H2 ⟨h2, hp2, kp2⟩
        refine k D0 _ H2 (by rw [List.length_map, List.length_range]) (handsAt_nd m8 fun k k' hk hk' e => ?_) (fun h hh => ?_) hD0 h2 hp2 kp2
        · have hl : (fi + 5 * k) % 23 < wordsL.length := Nat.mod_lt _ (by decide)
          have hl' : (fi + 5 * k') % 23 < wordsL.length := Nat.mod_lt _ (by decide)
          rw [List.getD_eq_getElem?_getD, List.getD_eq_getElem?_getD, List.getElem?_eq_getElem hl, List.getElem?_eq_getElem hl'] at e
          have e' : wordsL[(fi + 5 * k) % 23] = wordsL[(fi + 5 * k') % 23] := e
          have := nd_inj words_nd hl hl' e'
          omega
        · rw [List.mem_map] at hh
          obtain ⟨k, _, rfl⟩ := hh
          have hl : (fi + 5 * k) % 23 < wordsL.length := Nat.mod_lt _ (by decide)
          refine words_hand _ ?_
          rw [List.getD_eq_getElem?_getD, List.getElem?_eq_getElem hl]
          exact List.getElem_mem hl
    · -- the letters
      have h25 : b ≠ 25 := fun q => e (by subst q; rfl)
      refine ⟨_, rfl, _, rfl, by omega, by omega, ?_⟩
      rw [Int.toNat_natCast]
      refine for_range (lo := 0) (n := m) (fun i σ H2 => ∃ v3 v11 : Option V, σ = [some (.ref p), some (.int m), some (.str letters), v3, some (.str ⟨bs.toArray⟩), some (.int a), some (.int fi), some (.int cu), some (.int b), some (.ref g), none, v11] ∧ H2 g = some (.lst (((List.range i).map fun k => handAt bs a fi b cu k).map V.str)) ∧ PenAt H2 p c (n + 20) ∧ Kp p H H2)
        ⟨none, none, rfl, e8, hp8.mono (by omega), kp8⟩ ?_ ?_
      · rintro i σ H2 hi ⟨v3, v11, rfl, h2, hp2, kp2⟩
        have lb8 : (⟨bs.toArray⟩ : Str).length ≤ sizeLine := by rw [str_len]; exact Nat.le_trans b8 (by decide)
        refine ⟨_, rfl, _, rfl, _, _, rfl, rfl, _, rfl, _, rfl, lb8, ?_⟩
        rw [cutS_cs]
        have s1 : HT.sIx bs.length 0 (some ((a : Int) + 1)) = a + 1 := by
          rw [show ((a : Int) + 1) = ((a + 1 : Nat) : Int) from rfl, HT.sIx_nat]
          omega
        dsimp only
        rw [s1, HT.sIx_none, show (List.drop (a + 1) bs).take (bs.length - (a + 1)) = List.drop (a + 1) bs from List.take_of_length_le (by rw [List.length_drop]; omega)]
        refine ⟨_, rfl, _, _, rfl, rfl, (by show (0 : Int) < 3; decide), (by show 2 ≤ sizeLine; decide), fun t hT => ?_⟩
        refine ⟨_, rfl, t, _, _, .int (if cu = 0 then 8 else ((i % 3 : Nat) : Int)), rfl, rfl, SqL.of upd_same, ?_, _, rfl, _, rfl, ?_, ?_⟩
        · by_cases hc : cu = 0
          · subst hc
            exact atI_nat (j := 0) rfl
          · have : cu = 1 := by omega
            subst this
            rw [if_neg (by decide)]
            refine atI_nat (j := 1) ?_
            show some (V.int ((0 + (i : Int)) % 3)) = some (V.int ((i % 3 : Nat) : Int))
            rw [Int.zero_add]
            rfl
        · rw [str_len, List.length_drop]
          exact Nat.le_trans (by omega : bs.length - (a + 1) ≤ 8) (by decide)
        rw [cutS_cs]
        have h2t : (upd H2 t (.lst [.int 8, .int ((0 + (i : Int)) % 3)])) g = some (.lst (((List.range i).map fun k => handAt bs a fi b cu k).map V.str)) := (upd_ne (ne_of_none h2 hT)).trans h2
        have hp2t := hp2.keep (same_new (o := .lst [.int 8, .int ((0 + (i : Int)) % 3)]) hT)
        have kp2t := kp2.trans (Kp.new (o := .lst [.int 8, .int ((0 + (i : Int)) % 3)]) hT)
        show tDrop _ _ _ (upd H2 t (.lst [.int 8, .int ((0 + (i : Int)) % 3)]))
        generalize upd H2 t (.lst [.int 8, .int ((0 + (i : Int)) % 3)]) = H3 at h2t hp2t kp2t ⊢
        have s2 : ∀ l : List Nat, HT.sIx l.length l.length (some (if cu = 0 then 8 else ((i % 3 : Nat) : Int))) = min (if cu = 0 then 8 else i % 3) l.length := fun l => by
          by_cases hc : cu = 0
          · rw [if_pos hc, if_pos hc]
            exact HT.sIx_nat _ _ 8
          · rw [if_neg hc, if_neg hc]
            exact HT.sIx_nat _ _ _
        rw [s2, HT.sIx_none, List.drop_zero, Nat.sub_zero]
        have s3 : (List.drop (a + 1) bs).take (min (if cu = 0 then 8 else i % 3) (List.drop (a + 1) bs).length) = (List.drop (a + 1) bs).take (if cu = 0 then 8 else i % 3) := by
          rw [List.take_eq_take_iff]
          omega
        rw [s3]
        -- found.append(base[:at] + letters[..] + tail)
        refine ⟨_, rfl, .inl ⟨rfl, _, SqL.of h2t⟩, _, rfl, _, rfl, _, rfl, _, rfl, lb8, ?_⟩
        rw [cutS_cs]
        rw [HT.sIx_none, HT.sIx_nat, show min a bs.length = a by omega, List.drop_zero, Nat.sub_zero]
        have hx : ((fi : Int) + (b : Int) * (0 + (i : Int))) % 26 = (((fi + b * i) % 26 : Nat) : Int) := by
          rw [Int.zero_add]
          rfl
        have hl : (fi + b * i) % 26 < 26 := Nat.mod_lt _ (by decide)
        refine ⟨_, rfl, _, rfl, _, rfl, _, rfl, _, _, rfl, rfl, .inl (by omega), _, _, rfl, rfl, _, _, rfl, rfl, (by show (0 : Int) < 26; decide), letters, _, (fi + b * i) % 26 + 97, rfl, rfl, by decide +kernel, ?_, ?_⟩
        · rw [hx]
          refine atI_nat ?_
          rw [letters_cs, List.getElem?_map, List.getElem?_range hl]
          rfl
        have l1 : (List.take a bs).length ≤ 8 := by rw [List.length_take]; omega
        have l2 : (List.take (if cu = 0 then 8 else i % 3) (List.drop (a + 1) bs)).length ≤ 8 := by rw [List.length_take, List.length_drop]; omega
        refine ⟨_, _, rfl, rfl, ?_, ?_⟩
        · rw [str_len]
          exact Nat.le_trans (Nat.add_le_add l1 (Nat.le_refl 1)) (by decide)
        refine ⟨_, rfl, _, _, rfl, rfl, ?_, ?_⟩
        · rw [str_app, str_len, str_len, List.length_append]
          exact Nat.le_trans (Nat.add_le_add (Nat.add_le_add l1 (Nat.le_refl 1)) l2) (by decide)
        rw [str_app, str_app]
        refine ⟨g, _, _, rfl, rfl, h2t, ?_, ?_⟩
        · rw [List.length_map, List.length_map, List.length_range]
          exact small1000 (by omega)
        refine ⟨_, _, rfl, ?_, hp.mut g0 hp2t, kp2t.mut g0⟩
        rw [upd_same, List.range_succ, List.map_append, List.map_append]
        rfl
      · rintro σ H2 ⟨v3, v11, rfl, h2, hp2, kp2⟩
        refine ⟨_, rfl, k g _ H2 (by rw [List.length_map, List.length_range]) (handsAt_nd m8 fun k k' hk hk' e => handAt_inj (by omega) hb25 h25 hk hk' e) (fun h hh => ?_) g0 h2 hp2 kp2⟩
        rw [List.mem_map] at hh
        obtain ⟨k, _, rfl⟩ := hh
        exact handAt_is b8 hb (by omega)
end
end Ah
set_option Elab.async false
set_option linter.all false
set_option maxRecDepth 100000
set_option maxHeartbeats 2000000
/-! sorted(xs), xs a list of data that can be compared -/
namespace Ah
open PySem PySem.Spec PyProof.Rows L2
open PySem.W (EachIs AllAlike Sortable dataLe)
def sortD (ds : List PyData) : List PyData := ds.mergeSort (dataLe false (fun d => d))
def rSortedD (K : PySem.W.Frag) : List V → Hp → VK → Prop := fun vs H Q => ∃ (a : Addr) (xs : List V) (ds : List PyData), vs = [V.ref a] ∧ SqL K H a xs ∧ DpAll K H xs ds ∧ AllAlike ds ∧ Sortable ds ∧ (∀ d ∈ ds, d.depth ≤ 60) ∧
  ∀ (ys : List V) (p : Addr), ys.Perm xs → DpAll K H ys (sortD ds) → H p = none → Q (.ref p) (upd H p (.lst ys))
theorem each_of {K : PySem.W.Frag} {H : Hp} : ∀ {xs : List V} {its : List Value} {ds : List PyData}, Vals xs its → DpAll K H xs ds → EachIs (fun (v : Value) (b : V × PyData) => RelV b.1 v ∧ Dp K H b.1 b.2) its (xs.zip ds)
  | _, _, _, .nil, .nil => .nil
  | _, _, _, .cons r t, .cons h t' => .cons ⟨r, h⟩ (each_of t t')
theorem each_vals {K : PySem.W.Frag} {H : Hp} : ∀ {its : List Value} {zs : List (V × PyData)}, EachIs (fun (v : Value) (b : V × PyData) => RelV b.1 v ∧ Dp K H b.1 b.2) its zs → Vals (zs.map (·.1)) its ∧ DpAll K H (zs.map (·.1)) (zs.map (·.2))
  | _, _, .nil => ⟨.nil, .nil⟩
  | _, _, .cons ⟨r, h⟩ t => ⟨.cons r (each_vals t).1, .cons h (each_vals t).2⟩
theorem dpAll_zip2 {K : PySem.W.Frag} {H : Hp} : ∀ {xs : List V} {ds : List PyData}, DpAll K H xs ds → (xs.zip ds).map (·.2) = ds ∧ (xs.zip ds).map (·.1) = xs ∧ (xs.zip ds).length = ds.length
  | _, _, .nil => ⟨rfl, rfl, rfl⟩
  | _, _, .cons _ t => by
    obtain ⟨h1, h2, h3⟩ := dpAll_zip2 t
    exact ⟨by rw [List.zip_cons_cons, List.map_cons, h1], by rw [List.zip_cons_cons, List.map_cons, h2], by rw [List.zip_cons_cons, List.length_cons, List.length_cons, h3]⟩
section
variable {X : Cx}
theorem cr_sortedD (hu : X.A.units + 64 < cLine) : CallR X (.builtin "sorted") (rSortedD X.K) := by
  intro pins s σ H vs us Q I r h
  obtain ⟨a, xs, ds, rfl, hs, hd, hal, hk, hdep, q⟩ := h
  obtain ⟨its, rv, hl, hz⟩ := I.list hs
  rw [Vals.ref1 r]
  obtain ⟨z1, z2, z3⟩ := dpAll_zip2 hd
  have e := each_of rv hd
  have er : EachIs (fun (v : Value) (b : V × PyData) => ∃ as, Reads s.heap v b.2 as) its (xs.zip ds) := e.mono fun v b ⟨r1, r2⟩ => Dp.reads I b.2 b.1 v r2 r1
  have hlen : ds.length = xs.length := by
    have := congrArg List.length z2
    rw [List.length_map, z3] at this
    exact this
  refine PySem.W.sorted_data (enc := fun b : V × PyData => b.2) hl.isList e er (by rw [z1]; exact hal) (by rw [z1]; exact hk) (by rw [z3, hlen]; exact hz) (fun b hb => ?_) fun out ho eo => ?_
  · have hm : b.2 ∈ ds := by
      rw [← z1]
      exact List.mem_map.mpr ⟨b, hb, rfl⟩
    have := hdep _ hm
    omega
  · obtain ⟨ep, he'⟩ := PyProof.Rows.sortedAll_at s.heap its out.toArray
    obtain ⟨v1, v2⟩ := each_vals eo
    have pm : ((xs.zip ds).mergeSort (dataLe false fun b : V × PyData => b.2)).Perm (xs.zip ds) := List.mergeSort_perm _ _
    have p1 : (((xs.zip ds).mergeSort (dataLe false fun b : V × PyData => b.2)).map (·.1)).Perm xs := by
      have := pm.map (·.1)
      rw [z2] at this
      exact this
    have p2 : ((xs.zip ds).mergeSort (dataLe false fun b : V × PyData => b.2)).map (·.2) = sortD ds := by
      have := PySem.W.sort_maps (r := dataLe false fun b : V × PyData => b.2) (s := dataLe false fun d : PyData => d) (fun b : V × PyData => b.2) (l := xs.zip ds) (fun a _ b _ => rfl)
      rw [z1] at this
      exact this
    rw [p2] at v2
    refine ⟨.ref _, upd H (s.heap.objs.size + 1) (.lst _), I.laid (t' := s.toks) (fun _ _ => PyProof.Rows.sortedAll_old) (Nat.le_succ _) ⟨?_, out, ep, v1, he'⟩, rfl, q _ _ p1 v2 (I.hok.fresh (Nat.le_succ _))⟩
    rw [p1.length_eq]
    exact hz
end
end Ah
set_option Elab.async false
set_option linter.all false
set_option maxRecDepth 100000
set_option maxHeartbeats 4000000
/-! enumerate(t), t a tuple, walked by a for or a comprehension -/
namespace Ah
open PySem PySem.Spec PyProof.Rows L2
open AutoSeq1 (wpAny_loadPart')
abbrev tupIt (t : Addr) : Obj := { cls := .type "tuple_iterator", data := .fields #[.ref t, .int 0 0] }
abbrev enumO (it : Addr) : Obj := { cls := .type "enumerate", data := .fields #[.none, .bool false, .ref it, rawInt 0, .none, .none] }
theorem enum_new_tuple (t : Addr) (items : Array Value) (n : Nat) (di : Option Addr) (sl : Array (Option Value)) :
    Meets (Builtin.«enumerate.__new__» ⟨[.type "enumerate", .ref t], []⟩) (fun _ R s => s.heap.get? t = some { cls := .type "tuple", dict := di, data := .seq items n, slots := sl } ∧
      R (.ok (.ret (.ref (s.heap.push (tupIt t)).objs.size))) { s with heap := (s.heap.push (tupIt t)).push (enumO s.heap.objs.size) }) :=
  .of_wp fun prog w A R s h => by
    obtain ⟨hp, g, d, tk, os⟩ := s
    obtain ⟨there, h⟩ := h
    have sube := sub_enumerate
    have isT : Heap.IsTuple (Shared.heap ⟨hp, g, d, tk, os⟩) t items := ⟨_, there, rfl, n, rfl⟩
    wp_walk using wpAny_loadPart' there
    refine wpAny_stack_any fun st => wpAny_pure ?_
    split
    · rename_i c _ _ _ _ _
      cases (c == Value.type "enumerate") <;> (wp_walk using wpAny_loadPart' there, wpAny_pyIter_tuple isT; exact ⟨_, rfl, h⟩)
    · wp_walk using wpAny_loadPart' there, wpAny_pyIter_tuple isT
      exact ⟨_, rfl, h⟩
section
variable {prog : Program} {w : World} {A : Around} {E : Value → Shared → Prop} {s : Shared}
theorem call_enum_tuple {t : Addr} {items : Array Value} {Q : Value → Shared → Prop} (isT : s.heap.IsTuple t items)
    (h : ∀ h', IsEnum h' (s.heap.objs.size + 1) s.heap.objs.size 0 .none → h'.IsTupleIter s.heap.objs.size t 0 → (∀ b o, s.heap.get? b = some o → h'.get? b = some o) → Q (.ref (s.heap.objs.size + 1)) { s with heap := h' }) :
    wpAny (model prog w) A (call (.type "enumerate") [.ref t]) Q E s := by
  obtain ⟨⟨c, di, dt, sl⟩, there, hc, n, hd⟩ := isT
  simp only at hc hd
  subst hc hd
  refine callType_new F.called_enumerate (by decide) (F.typeCall_enumerate_1 _) (F.newCall_enumerate_1 _) (fun ob => F.args_object_init_2 ob _) F.entry_enumerate_new (enum_new_tuple t items n di sl) ⟨there, ?_⟩
  have two : (s.heap.push (tupIt t)).objs.size = s.heap.objs.size + 1 := Heap.size_push ..
  have isE : IsEnum ((s.heap.push (tupIt t)).push (enumO s.heap.objs.size)) (s.heap.objs.size + 1) s.heap.objs.size 0 .none := by
    have q := Heap.get?_push_size (s.heap.push (tupIt t)) (o := enumO s.heap.objs.size) rfl
    rw [two] at q
    exact q
  show _ ∧ _
  rw [two]
  exact ⟨⟨_, isE, rfl⟩, h _ isE ⟨_, Heap.get?_push_of_some _ (Heap.get?_push_size _ rfl), rfl, rfl⟩ fun b o x => Heap.get?_push_of_some _ (Heap.get?_push_of_some _ x)⟩
end
theorem tup_one {X : Cx} {pins : List (Addr × Obj)} {σ : L2.St} {H : Hp} {s : Shared} {a : Addr} {xs ys : List V} (I : Inv X pins σ H s) (h : SqT X.K H a xs) (h' : SqT X.K H a ys) : xs = ys := by
  obtain ⟨us, r, ⟨o, ho, _, _, hd⟩, _⟩ := I.tuple h
  obtain ⟨vs, r', ⟨o', ho', _, _, hd'⟩, _⟩ := I.tuple h'
  rw [ho] at ho'
  cases ho'
  rw [hd] at hd'
  injection hd' with e _
  have e2 : us = vs := by simpa using congrArg Array.toList e
  subst e2
  exact r.inj r'
theorem enum_end_tuple {prog : Program} {w : World} {A : Around} {E : Value → Shared → Prop} {s : Shared} {e it t : Addr} {i : Nat} {k : Int} {old : Value} {items : Array Value} {Q : Option Value → Shared → Prop} (quiet : A.handled = none)
    (isE : IsEnum s.heap e it k old) (isI : s.heap.IsTupleIter it t i) (isT : s.heap.IsTuple t items) (over : items[i]? = none) (h : ∀ h', Heap.ExtBut it s.heap h' → Q none { s with heap := h' }) : wpAny (model prog w) A (pyNext (.ref e)) Q E s := by
  have ty : s.TypeIs (.ref e) "enumerate" := ⟨_, isE, rfl⟩
  unfold pyNext
  refine wpAny_bind (wpAny_attempt (wpAny_callSpecial?_slot (name := Str.ofString "__next__") ty F.slot_enumerate_next (wpAny_call_entry F.slot_enumerate_next ty F.entry_enumerate_next ?_ (F.args_enumerate_next_1 _))))
  show wpAny _ _ (field (.ref e) 2 >>= fun _ => _) _ _ _
  refine wpAny_bind (wpAny_field isE rfl (x := .ref it) rfl (wpAny_bind (wpAny_nextOf_tuple_end quiet isI isT over fun h' x ex hx => ?_)))
  obtain ⟨o, ho, hc⟩ := hx
  exact wpAny_bind (wpAny_isInstance (b := true) (T := "StopIteration") ⟨o, ho, hc⟩ isSubtype_stop (wpAny_pure (h _ ex)))
/-- the tuple at a, each item in a new pair -/
def IteT (K : PySem.W.Frag) (a : Addr) : It :=
  ⟨fun i H => ∃ (xs : List V) (x : V), SqT K H a xs ∧ xs[i]? = some x, fun i H v H' => ∃ T x, v = .ref T ∧ H T = none ∧ H' = upd H T (.tup [.int (i : Nat), x]) ∧ ∀ xs, SqT K H a xs → xs[i]? = some x, fun i H => ∃ xs : List V, SqT K H a xs ∧ xs.length ≤ i⟩
theorem turn_enumT {P : Program} {w : World} {K : PySem.W.Frag} {elts : List Expr} {kk : Nat} {tpos : Pos} (a e it : Addr) :
    Turn P w K (.Tuple elts kk tpos) (IteT K a) [e, it] e (fun i h => (∃ old, IsEnum h e it ((i : Nat) : Int) old) ∧ h.IsTupleIter it a i ∧ e ≠ it ∧ a ≠ it ∧ a ≠ e) where
  mem := by simp
  obj := fun i h st b hb => by
    obtain ⟨⟨old, isE⟩, ⟨o, ho, hc, hd⟩, _⟩ := st
    rcases (show b = e ∨ b = it by simpa using hb) with z | z
    · rw [z]; exact ⟨_, isE, fun v q => nomatch q⟩
    · rw [z]; exact ⟨o, ho, fun v q => by rw [hd] at q; cases q⟩
  keep := fun i h h' st k => ⟨⟨st.1.choose, k e (by simp) _ st.1.choose_spec⟩, st.2.1.at fun o q => k it (by simp) o q, st.2.2⟩
  item := by
    intro X hP hw hK hc i pins s σ H E I hf st hg
    subst hP hw hK
    obtain ⟨⟨old, isE⟩, isI, nei, nai, nae⟩ := st
    obtain ⟨xs, x, hq, hx⟩ := hg
    obtain ⟨its, rv, isT, hz⟩ := I.tuple hq
    obtain ⟨u, hu, ru⟩ := rv.get hx
    have elt : e < s.heap.objs.size := Heap.lt_size isE
    have ilt : it < s.heap.objs.size := isI.elim fun _ q => Heap.lt_size q.1
    have hul : i < its.length := (List.getElem?_eq_some_iff.mp hu).1
    refine wpAny_pyNext_enum_itemD (Draws.tuple (A := X.A.in1) (I.ok.hd hc) it a nai its.toArray) isE ⟨isI, isT⟩ (by simpa using hul) nei (by simp [nei, Ne.symm nae]) fun y h1 tk hy out st1 newT hsz keep => ?_
    have ey : y = u := by
      have q : its[i]? = some y := by simpa using hy
      rw [hu] at q
      exact (Option.some.inj q).symm
    subst ey
    refine ⟨_, rfl, wpAny_letOwnedTupleGo_enum (s := { s with heap := h1, toks := tk + 1 }) out fun h2 isE2 sb => ?_⟩
    have newT2 : h2.get? s.heap.objs.size = some { cls := .type "tuple", data := .seq #[.int i tk, y] } := (sb.2 _ (Nat.ne_of_gt elt)).trans newT
    have okT : ObjOk X.prog X.w (upd H s.heap.objs.size (.tup [.int (i : Nat), x])) h2 s.heap.objs.size (.tup [.int (i : Nat), x]) :=
      ⟨by show 2 ≤ sizeLine; decide, [.int i tk, y], .cons ⟨_, rfl⟩ (.cons ru .nil), ⟨_, newT2, rfl, _, rfl⟩⟩
    have I1 : Inv X pins σ (upd H s.heap.objs.size (.tup [.int (i : Nat), x])) { s with heap := h2, toks := tk + 1 } :=
      I.turnedNew (ch := [e, it]) (fun b ob hb q => (sb.2 b (fun z => hb (by simp [z]))).trans (keep b ob (fun z => hb (by simp [z])) (fun z => hb (by simp [z])) q)) hf (Nat.le_refl _) okT
    refine ⟨.ref s.heap.objs.size, _, I1, rfl, ⟨_, x, rfl, I.hok.fresh (Nat.le_refl _), rfl, fun ys hy => ?_⟩, ⟨⟨y, ?_⟩, st1.1.at fun o q => (sb.2 it (Ne.symm nei)).trans q, nei, nai, nae⟩, fun b hb => ?_⟩
    · have e1 : ys = xs := by
        exact tup_one I hy hq
      rw [e1]
      exact hx
    · rw [show ((i + 1 : Nat) : Int) = (i : Int) + 1 by omega]
      exact isE2
    · have old' : b < s.heap.objs.size := by
        rcases (show b = e ∨ b = it by simpa using hb) with z | z
        · rw [z]; exact elt
        · rw [z]; exact ilt
      rw [upd_ne (Nat.ne_of_lt old')]
      exact (hf b hb).1
  done := by
    intro X hP hw hK hc i pins s σ H E I hf st hg
    subst hP hw hK
    obtain ⟨⟨old, isE⟩, isI, nei, nai, nae⟩ := st
    obtain ⟨xs, hq, hx⟩ := hg
    obtain ⟨its, rv, isT, hz⟩ := I.tuple hq
    obtain ⟨f0, f1, f2, f3, f4, f5⟩ := hf it (by simp)
    have hl := rv.length
    exact enum_end_tuple (I.ok.hd hc) isE isI isT (by simp; omega) fun h1 eb => ⟨rfl, I.turned (t' := s.toks) (fun b o hb q => eb b o hb q) f0 f1 f3 f4 f5⟩
  self := fun A i s Q E st h => wpAny_pyIter_enum st.1.choose_spec h
def iEnumT (K : PySem.W.Frag) (ta : TA) : TI := fun σ H R => ta σ H fun vs H1 => ∃ a xs, vs = [.ref a] ∧ SqT K H1 a xs ∧ R (IteT K a) H1
theorem pi_enumT {X : Cx} {e : Expr} {ta : TA} {p pos tpos : Pos} {elts : List Expr} {kk : Nat} (hg : Gl X "enumerate") (hm : X.mg "enumerate" = none) (ha : PA X [e] ta) (one : starEach [e] X.env = [(false, eval e X.env)] := by rfl) :
    PI X (.Tuple elts kk tpos) (.Call (.Name "enumerate" p) [e] [] pos) (iEnumT X.K ta) := by
  refine ⟨fun pins s σ H R I h => ?_⟩
  refine Call_ (ld_blt I hg hm boot_enumerate (PyProof.Rows.callWith_type1 (thn (ha.run pos pins s σ H _ I h) fun us s1 ⟨vs, H1, I1, r1, q1⟩ => ?_) one rfl))
  obtain ⟨a, xs, rfl, hq, q⟩ := q1
  rw [Vals.ref1 r1]
  obtain ⟨its, rv, isT, hz⟩ := I1.tuple hq
  have alt : a < s1.heap.objs.size := isT.elim fun _ q => Heap.lt_size q.1
  refine call_enum_tuple isT fun h1 isE isI keep => wpAny_pyIter_enum isE ?_
  have I2 : Inv X pins σ H1 { s1 with heap := h1 } := I1.kept (t' := s1.toks) keep
  refine ⟨s1.heap.objs.size + 1, [s1.heap.objs.size + 1, s1.heap.objs.size], _, _, H1, rfl, I2, turn_enumT a (s1.heap.objs.size + 1) s1.heap.objs.size, ⟨⟨.none, isE⟩, isI, Nat.succ_ne_self _, Nat.ne_of_lt alt, Nat.ne_of_lt (Nat.lt_succ_of_lt alt)⟩, fun b hb => ?_, q⟩
  have new : s1.heap.objs.size ≤ b := by
    rcases (show b = s1.heap.objs.size + 1 ∨ b = s1.heap.objs.size by simpa using hb) with z | z
    · rw [z]; exact Nat.le_succ _
    · rw [z]; exact Nat.le_refl _
  exact I1.fpOk new (I1.hok.fresh new)
end Ah
set_option Elab.async false
set_option linter.all false
set_option maxRecDepth 100000
set_option maxHeartbeats 4000000
namespace Ah
open PySem PySem.Spec PyProof.Rows L2
/-! ### comprehensions that change nothing -/
def CompSt (H0 : Hp) (D : Addr) (xs : List V) (f : V → V) (i : Nat) (H : Hp) : Prop := Same H0 H ∧ H D = some (.lst ((xs.take i).map f))
theorem CompSt.start {H0 H : Hp} {D : Addr} {xs : List V} {f : V → V} (h : Same H0 H) (hD : H D = none) : CompSt H0 D xs f 0 (upd H D (.lst [])) := ⟨h.trans (same_new hD), upd_same⟩
theorem CompSt.step {H0 H : Hp} {D : Addr} {xs : List V} {f : V → V} {i : Nat} {x : V} (h : Same H0 H) (hD : H D = some (.lst ((xs.take i).map f))) (hx : xs[i]? = some x) (n0 : H0 D = none) (hl : xs.length ≤ 1000) :
    ∃ acc, H D = some (.lst acc) ∧ acc.length < sizeLine ∧ CompSt H0 D xs f (i + 1) (upd H D (.lst (acc ++ [f x]))) := by
  refine ⟨_, hD, ?_, same_mut h n0, ?_⟩
  · rw [List.length_map, List.length_take]
    exact small1000 (by omega)
  · rw [upd_same, List.take_succ, hx, List.map_append]
    rfl
theorem lc_gen {J : It} {n : Nat} {item : Nat → V} {g : TG} {tt : TT} {te : TE} {vs : List Nat} {σ : L2.St} {H1 : Hp} {D : Addr} {Qd : Hp → Prop} (Pv : Nat → Hp → Prop) (h0 : Pv 0 (upd H1 D (.lst [])))
    (hgo : ∀ i H, i < n → Pv i H → J.go i H) (hst : ∀ H, Pv n H → J.stop n H) (hy : ∀ i H x H', i < n → Pv i H → J.yld i H x H' → H' = H ∧ x = item i)
    (hs : ∀ i H, i < n → Pv i H → g (item i) (wipe σ vs) H fun σ2 H2 => wipe σ2 vs = wipe σ vs ∧ tt σ2 H2 fun b H3 =>
      if b = true then te σ2 H3 fun y H4 => ∃ acc, H4 D = some (.lst acc) ∧ acc.length < sizeLine ∧ Pv (i + 1) (upd H4 D (.lst (acc ++ [y]))) else Pv (i + 1) H3) (hd : ∀ H, Pv n H → Qd H) :
    ∃ W : Nat → Nat → Hp → Prop, (∃ m, W 0 m (upd H1 D (.lst []))) ∧ ∀ i m H, W i m H →
      (J.stop i H ∧ Qd H) ∨ (J.go i H ∧ ∃ Nx : Hp → Prop, (∀ H', Nx H' → ∃ m', m' < m ∧ W (i + 1) m' H') ∧ ∀ x H', J.yld i H x H' → g x (wipe σ vs) H' fun σ2 H2 => wipe σ2 vs = wipe σ vs ∧ tt σ2 H2 fun b H3 =>
        if b = true then te σ2 H3 fun y H4 => ∃ acc, H4 D = some (.lst acc) ∧ acc.length < sizeLine ∧ Nx (upd H4 D (.lst (acc ++ [y]))) else Nx H3) := by
  refine ⟨fun i m H => m = n - i ∧ i ≤ n ∧ Pv i H, ⟨n, rfl, Nat.zero_le _, h0⟩, ?_⟩
  rintro i m H ⟨rfl, hi, p⟩
  rcases Nat.lt_or_ge i n with hlt | hge
  · refine .inr ⟨hgo i H hlt p, Pv (i + 1), fun H' p' => ⟨n - (i + 1), by omega, rfl, hlt, p'⟩, fun x H' y => ?_⟩
    obtain ⟨rfl, rfl⟩ := hy i H x H' hlt p y
    exact hs i _ hlt p
  · obtain rfl : i = n := by omega
    exact .inl ⟨hst H p, hd H p⟩
/-! ### the program's own -/
structure Blt2 (mg : Str → Option Value) : Prop where
  isinstance : mg "isinstance" = none
  str : mg "str" = none
  list : mg "list" = none
  tuple : mg "tuple" = none
  dict : mg "dict" = none
  all : mg "all" = none
  set : mg "set" = none
  len : mg "len" = none
  enum : mg "enumerate" = none
  sorted : mg "sorted" = none
  range : mg "range" = none
section
variable {P : Program} {w : World} {K : PySem.W.Frag} {mg : Str → Option Value} {base : Heap}
end
end Ah
set_option Elab.async false
set_option linter.all false
set_option maxRecDepth 100000
set_option maxHeartbeats 4000000
namespace Ah
open PySem PySem.Spec PyProof.Rows L2
/-! ### a list or a tuple walked -/
def iOr (a b : TI) : TI := fun σ H R => a σ H R ∨ b σ H R
theorem pi_or {X : Cx} {tg e : Expr} {a b : TI} (h1 : PI X tg e a) (h2 : PI X tg e b) : PI X tg e (iOr a b) := ⟨fun pins s σ H R I h => h.elim (h1.run pins s σ H R I) (h2.run pins s σ H R I)⟩
/-- [.. for x in xs], xs a list or a tuple that stands still -/
theorem rd_same {H H' : Hp} {a : Addr} {u : HO} (k : Same H H') (h : Rd H a u) : Rd H' a u := h.imp (k _ _) fun ⟨o, h⟩ => ⟨o, k _ _ h⟩
theorem rd_some {H : Hp} {a : Addr} {u : HO} (h : Rd H a u) : ∃ o, H a = some o := h.elim (fun h => ⟨_, h⟩) fun ⟨_, h⟩ => ⟨_, h⟩
theorem rd_eq {H H' : Hp} {a : Addr} {u : HO} (e : H' a = H a) (h : Rd H a u) : Rd H' a u := h.imp e.trans fun ⟨o, h⟩ => ⟨o, e.trans h⟩
theorem ty_tup {K : PySem.W.Frag} {H : Hp} {a : Addr} {xs : List V} (h : Rd H a (.tup xs)) : TyX K H (.ref a) (.type "tuple") := h.elim (fun h => .base (.tup h)) fun ⟨_, h⟩ => .fTuple h
/-- a tuple whose object has no dict -/
def Ftp (H : Hp) (a : Addr) (xs : List V) : Prop := ∃ o : Obj, o.dict = none ∧ H a = some (.frz o (.tup xs))
theorem Ftp.rd {H : Hp} {a : Addr} {xs : List V} (h : Ftp H a xs) : Rd H a (.tup xs) := let ⟨o, _, h⟩ := h; .inr ⟨o, h⟩
theorem Ftp.same {H H' : Hp} {a : Addr} {xs : List V} (k : Same H H') (h : Ftp H a xs) : Ftp H' a xs := let ⟨o, d, h⟩ := h; ⟨o, d, k _ _ h⟩
def LTu (H : Hp) (a : Addr) (xs : List V) : Prop := H a = some (.lst xs) ∨ Rd H a (.tup xs)
theorem LTu.same {H H' : Hp} {a : Addr} {xs : List V} (k : Same H H') (h : LTu H a xs) : LTu H' a xs := h.imp (k _ _) (rd_same k)
theorem LTu.sq {K : PySem.W.Frag} {H : Hp} {a : Addr} {xs : List V} (h : LTu H a xs) : SqL K H a xs ∨ SqT K H a xs := h.imp (fun h => SqL.of h) fun h => .inl h
theorem iOr_lc {K : PySem.W.Frag} {a : Addr} {xs : List V} {g : TG} {tt : TT} {tx te : TE} {vs : List Nat} {σ : L2.St} {H : Hp} {Q : VK} (hx : ∀ R, R (.ref a) H → tx σ H R) (hs0 : LTu H a xs) (Pv : Addr → Nat → Hp → Prop)
    (h0 : ∀ D, H D = none → Pv D 0 (upd H D (.lst []))) (hl : ∀ D i H', H D = none → i ≤ xs.length → Pv D i H' → H' a = H a)
    (hs : ∀ D i x H', H D = none → xs[i]? = some x → Pv D i H' → g x (wipe σ vs) H' fun σ2 H2 => wipe σ2 vs = wipe σ vs ∧ tt σ2 H2 fun b H3 =>
      if b = true then te σ2 H3 fun y H4 => ∃ acc, H4 D = some (.lst acc) ∧ acc.length < sizeLine ∧ Pv D (i + 1) (upd H4 D (.lst (acc ++ [y]))) else Pv D (i + 1) H3) (hd : ∀ D H', H D = none → Pv D xs.length H' → Q (.ref D) H') :
    tLc (iOr (iList K tx) (iTup K tx)) g tt te vs σ H Q := by
  rcases hs0 with h1 | h1
  · exact .inl (hx _ ⟨a, rfl, ⟨xs, SqL.of h1⟩, fun D hD => lc_list (K := K) (a := a) (xs := xs) (Pv D) (h0 D hD) (fun i H' hi p => SqL.of ((hl D i H' hD hi p).trans h1)) (fun i x H' hxi p => hs D i x H' hD hxi p) fun H' p => hd D H' hD p⟩)
  · exact .inr (hx _ ⟨a, rfl, ⟨xs, .inl h1⟩, fun D hD => lc_tup (K := K) (a := a) (xs := xs) (Pv D) (h0 D hD) (fun i H' hi p => .inl (rd_eq (hl D i H' hD hi p) h1)) (fun i x H' hxi p => hs D i x H' hD hxi p) fun H' p => hd D H' hD p⟩)
theorem LTu.some {H : Hp} {a : Addr} {xs : List V} (h : LTu H a xs) : ∃ o, H a = some o := h.elim (fun h => ⟨_, h⟩) rd_some
theorem str_at {xs : List Str} {i : Nat} {v : V} (h : (xs.map V.str)[i]? = some v) : ∃ x, xs[i]? = some x ∧ v = .str x ∧ x ∈ xs := by
  rw [List.getElem?_map] at h
  obtain ⟨x, hx, rfl⟩ := Option.map_eq_some_iff.mp h
  exact ⟨x, hx, rfl, List.mem_of_getElem? hx⟩
section
variable {P : Program} {w : World} {K : PySem.W.Frag} {mg : Str → Option Value} {base : Heap}
/-- other things: nothing, a text, a number, an empty dict -/
inductive Od where
  | non | str (x : Str) | int (i : Int) | dic
def Od.isDic : Od → Bool
  | .dic => true
  | _ => false
def OdAt (H : Hp) (v : V) : Od → Prop
  | .non => v = .non
  | .str x => v = .str x
  | .int i => v = .int i
  | .dic => ∃ a, v = .ref a ∧ Rd H a (.dK [])
theorem OdAt.same {H H' : Hp} {v : V} {d : Od} (k : Same H H') (h : OdAt H v d) : OdAt H' v d := by
  cases d with
  | non => exact h
  | str x => exact h
  | int i => exact h
  | dic => exact h.imp fun _ h => ⟨h.1, rd_same k h.2⟩
theorem ty_dict {K : PySem.W.Frag} {H : Hp} {a : Addr} {kvs : List (Key × V)} (h : Rd H a (.dK kvs)) : TyX K H (.ref a) (.type "dict") := h.elim (fun h => .base (.dK h)) fun ⟨_, h⟩ => .fDict h
theorem OdAt.ty {K : PySem.W.Frag} {H : Hp} {v : V} {d : Od} (h : OdAt H v d) : ∃ ty, TyX K H v ty ∧ PySem.W.kitOne K ty (.type "list") = some false ∧ PySem.W.kitOne K ty (.type "tuple") = some false ∧ PySem.W.kitOne K ty (.type "dict") = some d.isDic := by
  cases d with
  | non =>
    cases (show v = .non from h)
    exact ⟨_, .base .non, kit_ty (by decide +kernel), kit_ty (by decide +kernel), kit_ty (by decide +kernel)⟩
  | str x =>
    cases (show v = .str x from h)
    exact ⟨_, .base (.str x), kit_ty (by decide +kernel), kit_ty (by decide +kernel), kit_ty (r := false) (by decide +kernel)⟩
  | int i =>
    cases (show v = .int i from h)
    exact ⟨_, .base (.int i), kit_ty (by decide +kernel), kit_ty (by decide +kernel), kit_ty (r := false) (by decide +kernel)⟩
  | dic =>
    obtain ⟨a, rfl, h⟩ := h
    exact ⟨_, ty_dict h, kit_ty (by decide +kernel), kit_ty (by decide +kernel), kit_ty (by decide +kernel)⟩
end
end Ah
set_option Elab.async false
set_option linter.all false
set_option maxRecDepth 100000
set_option maxHeartbeats 4000000
/-! tuples whose object is known: made, joined, cut, turned round; t.index(text) of one -/
namespace Ah
open PySem PySem.Spec PyProof.Rows L2
section
variable {prog : Program} {w : World} {A : Around} {E : Value → Shared → Prop} {s : Shared}
theorem adjust_rev (n : Nat) : Builtin.Slice.sliceAdjust none none (-1) (n : Int) = ((n : Int) - 1, -1) := by
  unfold Builtin.Slice.sliceAdjust
  simp
theorem places_rev (n : Nat) : Builtin.Slice.slicePlaces ((n : Int) - 1) (-1) (-1) = n := by
  unfold Builtin.Slice.slicePlaces
  have h1 : ¬ ((-1 : Int) > 0) := by decide
  simp only [h1, if_false]
  by_cases h : (n : Int) - 1 > -1
  · rw [if_pos h, show (- -1 : Int) = 1 by decide, Int.ediv_one]
    omega
  · rw [if_neg h]
    omega
theorem fm_congr {α β : Type} {f g : α → Option β} : ∀ {l : List α}, (∀ x ∈ l, f x = g x) → l.filterMap f = l.filterMap g
  | [], _ => rfl
  | a :: l, h => by
    rw [List.filterMap_cons, List.filterMap_cons, h a List.mem_cons_self, fm_congr fun x hx => h x (List.mem_cons_of_mem _ hx)]
theorem pick_rev (xs : Array Value) : ((List.range xs.size).filterMap fun (m : Nat) => xs[(((xs.size : Int) - 1) + (m : Int) * (-1)).toNat]?).toArray = xs.toList.reverse.toArray := by
  have e : (List.range xs.size).filterMap (fun (m : Nat) => xs[(((xs.size : Int) - 1) + (m : Int) * (-1)).toNat]?) = ((List.range xs.size).map fun k => xs.size - 1 - k).filterMap (xs[·]?) := by
    rw [List.filterMap_map]
    refine fm_congr fun m hm => ?_
    have := List.mem_range.mp hm
    show xs[(((xs.size : Int) - 1) + (m : Int) * (-1)).toNat]? = xs[xs.size - 1 - m]?
    rw [show (((xs.size : Int) - 1) + (m : Int) * (-1)).toNat = xs.size - 1 - m by omega]
  rw [e, PySem.W.krv_range, List.filterMap_reverse, PySem.W.krv_all]
theorem getItem_tuple_rev {t sl : Addr} {items : Array Value} {k : Tok} {Q : Value → Shared → Prop} (ht : IsTup s.heap t items) (hs : s.heap.IsSliceOf sl .none .none (.int (-1) k))
    (h : Q (.ref s.heap.objs.size) { s with heap := s.heap.push { cls := .type "tuple", data := .seq items.toList.reverse.toArray } }) (hsz : items.size ≤ sizeLine) : wpAny (model prog w) A (getItem (.ref t) (.ref sl)) Q E s := by
  have htake : sizeOk (.seq items.toList.reverse.toArray) := by
    show items.toList.reverse.toArray.size ≤ sizeLine
    rw [List.size_toArray, List.length_reverse, Array.length_toList]
    exact hsz
  obtain ⟨os, hos, hcs, hds⟩ := id hs
  have hTs : s.TypeIs (.ref sl) "slice" := ⟨os, hos, hcs⟩
  unfold getItem
  try with_reducible refine wpAny_holding ?_
  first | refine wpAny_bind (wpAny_pure ?_) | skip
  refine wpAny_bind (wpAny_sequenceKey ht.typeIs (by decide) ?_)
  refine wpAny_bind (wpAny_callSpecial?_slot (name := Str.ofString "__getitem__") ht.typeIs PyProof.Rows.slot_tuple_getitem
    (wpAny_call_entry PyProof.Rows.slot_tuple_getitem ht.typeIs PyProof.Rows.entry_tuple_getitem ?_ (PyProof.Rows.args_tuple_getitem _ _)))
  show wpAny _ _ (Builtin.Tuple.tupleItemsOf (.ref t) >>= _) _ _ s
  refine wpAny_bind (PyProof.Rows.tupleItemsOf_ ht ?_)
  refine wpAny_bind (wpAny_typeOf hTs ?_)
  rw [if_pos (by decide)]
  refine wpAny_bind ?_
  · unfold Builtin.Slice.sliceApplied Builtin.Slice.sliceFields
    refine wpAny_bind (wpAny_bind (wpAny_field hos hds (x := .none) rfl (wpAny_bind (wpAny_field hos hds (x := .none) rfl (wpAny_bind (wpAny_field hos hds (x := .int (-1) k) rfl (wpAny_pure ?_)))))))
    refine wpAny_bind (PyProof.Rows.slicePart_int ?_)
    show wpAny _ _ (if ((-1 : Int) == 0) = true then _ else _) _ _ s
    rw [if_neg (by decide)]
    refine wpAny_bind (PyProof.Rows.slicePart_none (wpAny_bind (PyProof.Rows.slicePart_none (wpAny_bind (wpAny_pure ?_)))))
    show wpAny _ _ (match Builtin.Slice.sliceAdjust none none (-1) (items.size : Int) with | (lo, hi) => pure (lo, (-1 : Int), Builtin.Slice.slicePlaces lo hi (-1))) _ _ s
    rw [adjust_rev]
    show wpAny _ _ (pure (((items.size : Int) - 1), (-1 : Int), Builtin.Slice.slicePlaces ((items.size : Int) - 1) (-1) (-1))) _ _ s
    rw [places_rev]
    refine wpAny_pure ?_
    have hno : ¬ ((((items.size : Int) - 1) == 0 && (-1 : Int) == 1 && items.size == items.size) = true) := by simp
    show wpAny _ _ (if (((items.size : Int) - 1) == 0 && (-1 : Int) == 1 && items.size == items.size) = true then _ else _) _ _ s
    rw [if_neg hno, pick_rev]
    first
      | exact wpAny_bind (m := Builtin.Tuple.tupleExact _) (wpAny_newObj_type (wpAny_pure ⟨_, rfl, wpAny_pure h⟩) htake)
      | exact wpAny_bind (m := Builtin.Tuple.tupleExact _) (wpAny_newObj_type (wpAny_bind (wpAny_pure (wpAny_pure ⟨_, rfl, wpAny_pure h⟩))) htake)
      | exact wpAny_bind (wpAny_bind (m := Builtin.Tuple.tupleExact _) (wpAny_newObj_type (wpAny_pure (wpAny_pure ⟨_, rfl, wpAny_pure h⟩)) htake))
      | exact wpAny_bind (wpAny_bind (m := Builtin.Tuple.tupleExact _) (wpAny_newObj_type (wpAny_pure ⟨_, rfl, wpAny_pure h⟩) htake))
end
section
variable {X : Cx}
/-- a new tuple, its object known -/
def NewF (H : Hp) (xs : List V) (Q : VK) : Prop := ∀ (p : Addr) (o : Obj), o.dict = none → H p = none → Q (.ref p) (upd H p (.frz o (.tup xs)))
def tRevT (K : PySem.W.Frag) (te : TE) : TE := fun σ H Q => te σ H fun x H1 => ∃ a xs, x = .ref a ∧ SqT K H1 a xs ∧ NewF H1 xs.reverse Q
theorem pe_revT {e : Expr} {te : TE} {k : Nat} {p1 p2 p3 pos : Pos} (he : PE X e te) : PE X (.Subscript e (.Slice none none (some (.UnaryOp .USub (.Constant (.int 1) k p1) p2)) p3) pos) (tRevT X.K te) := by
  refine ⟨fun pins s σ H Q I h => ?_⟩
  refine Subscript_ (thn (he.run pins s σ H _ I h) fun v s1 ⟨x, H1, I1, r1, q1⟩ => ?_)
  obtain ⟨a, xs, ex, hx, q⟩ := q1
  subst ex
  cases r1
  have hst : PO X (some (.UnaryOp .USub (.Constant (.int 1) k p1) p2)) (tPart (tUn (rU fun i => .int (-i)) (tC (.int 1)))) := po_some (pe_un un_neg pe_int)
  refine wpAny_Slice (thn (po_none.run pins s1 σ H1 (fun o H2 => o = none ∧ H2 = H1) I1 ⟨rfl, rfl⟩) fun vl s2 ⟨l, H2, I2, pl, el, e2⟩ => ?_)
  subst el e2
  refine thn (po_none.run pins s2 σ H2 (fun o H3 => o = none ∧ H3 = H2) I2 ⟨rfl, rfl⟩) fun vu s3 ⟨u, H3, I3, pu, eu, e3⟩ => ?_
  subst eu e3
  refine thn (hst.run pins s3 σ H3 (fun o H4 => o = some (-1) ∧ H4 = H3) I3 ⟨1, rfl, -1, rfl, rfl, rfl⟩) fun vs s4 ⟨o, H4, I4, ps, eo, e4⟩ => ?_
  subst eo e4
  have I5 : Inv X pins σ H4 { s4 with heap := s4.heap.push { cls := .type "slice", data := .fields #[vl, vu, vs] } } := I4.kept (t' := s4.toks) fun b ob q => Heap.get?_push_of_some _ q
  obtain ⟨its, r, ht, hz⟩ := I5.tuple hx
  have hlen := r.length
  cases pl
  cases pu
  obtain ⟨kk, rfl⟩ : ∃ kk, vs = Value.int (-1) kk := by
    cases ps
    exact ⟨_, rfl⟩
  show wpAny (model X.prog X.w) X.A (subscriptTail e (.Slice none none (some (.UnaryOp .USub (.Constant (.int 1) k p1) p2)) p3) (.ref a) (.ref s4.heap.objs.size)) (EP X pins σ Q) X.xe { s4 with heap := s4.heap.push { cls := .type "slice", data := .fields #[.none, .none, .int (-1) kk] } }
  refine tail_any (ops := [.ref a, .ref s4.heap.objs.size]) ht.typeIs (PyProof.Rows.slot_tuple_getitem.lookup) ?_ (by with_unfolding_all rfl)
  refine getItem_tuple_rev ht (Heap.IsSliceOf.new _ _ _ _) ?_ (by rw [List.size_toArray]; omega)
  refine ⟨.ref _, _, I5.laid (t' := s4.toks) (o := .frz { cls := .type "tuple", data := .seq its.reverse.toArray } (.tup xs.reverse)) (fun b ob q => Heap.get?_push_of_some _ q) (Nat.le_refl _) ?_, rfl, q _ _ rfl (I5.hok.fresh (Nat.le_refl _))⟩
  exact ⟨Heap.get?_push_size _ rfl, by rw [List.length_reverse]; omega, _, r.reverse, IsTup.new _ _⟩
def tTupF (t : TA) : TE := fun σ H Q => t σ H fun xs H1 => xs.length ≤ sizeLine ∧ NewF H1 xs Q
theorem pe_tupF {es : List Expr} {t : TA} {pos : Pos} {x1 : Nat} (h : PA X es t) : PE X (.Tuple es x1 pos) (tTupF t) := by
  refine ⟨fun pins s σ H Q I hq => ?_⟩
  refine wpAny_Tuple_spliced (thn (h.run pos pins s σ H _ I hq) fun us s1 ⟨xs, H1, I1, r, z, q⟩ => ⟨by rw [← r.length]; exact z, ?_⟩)
  have hf : H1 s1.heap.objs.size = none := I1.hok.fresh (Nat.le_refl _)
  refine ⟨.ref s1.heap.objs.size, _, I1.laid (t' := s1.toks) (o := .frz { cls := .type "tuple", data := .seq us.toArray } (.tup xs)) (fun b u e => Heap.get?_push_of_some _ e) (Nat.le_refl _) ?_, rfl, q _ _ rfl hf⟩
  exact ⟨Heap.get?_push_size _ rfl, z, us, r, ⟨_, Heap.get?_push_size _ rfl, rfl, _, rfl⟩⟩
def rCatF (K : PySem.W.Frag) : R2 := fun x y H Q => ∃ a b xs ys, x = .ref a ∧ y = .ref b ∧ SqT K H a xs ∧ SqT K H b ys ∧ xs.length + ys.length ≤ sizeLine ∧
  (xs = [] → Q (.ref b) H) ∧ (xs ≠ [] → ys = [] → Q (.ref a) H) ∧ (xs ≠ [] → ys ≠ [] → NewF H (xs ++ ys) Q)
theorem op_catF : OpR X (binaryOp .Add) (rCatF X.K) := by
  intro pins s σ H x y v u Q I rx ry h
  obtain ⟨a, b, xs, ys, rfl, rfl, ha, hb, hz, q0, q1, q2⟩ := h
  cases rx
  cases ry
  obtain ⟨its, r1, p1, _⟩ := I.tuple ha
  obtain ⟨its2, r2, p2, _⟩ := I.tuple hb
  by_cases hx : xs = []
  · subst hx
    cases r1
    exact cat_tup0 p1 p2 ⟨.ref b, H, I, rfl, q0 rfl⟩
  · refine HT.cat_tup p1 p2 (fun z => hx (r1.nil_iff.mp z)) (fun z => ⟨.ref a, H, I, rfl, q1 hx (r2.nil_iff.mp z)⟩) (fun z => ?_) (by rw [← r1.length, ← r2.length]; exact hz)
    refine ⟨.ref s.heap.objs.size, _, I.laid (t' := s.toks) (o := .frz { cls := .type "tuple", data := .seq (its ++ its2).toArray } (.tup (xs ++ ys))) (fun b ob q => Heap.get?_push_of_some _ q) (Nat.le_refl _) ?_, rfl, q2 hx (fun w => z (r2.nil_iff.mpr w)) _ _ rfl (I.hok.fresh (Nat.le_refl _))⟩
    exact ⟨Heap.get?_push_size _ rfl, by rw [List.length_append]; exact hz, _, r1.append r2, IsTup.new _ _⟩
theorem call_tuple_ofF : CallR X (.type "tuple") (fun xs H Q => ∃ p ys, xs = [.ref p] ∧ SqL X.K H p ys ∧ NewF H ys Q) := by
  intro pins s σ H xs us Q I r h
  obtain ⟨p, ys, rfl, hq, q⟩ := h
  obtain ⟨u, rfl, rx⟩ := vals1 r
  cases rx
  obtain ⟨its, r', pl, hz⟩ := I.list hq
  have hlen := r'.length
  refine call_tuple_list pl.isList (fun h' kp => ?_) (by simp only [List.size_toArray] <;> omega)
  have I1 : Inv X pins σ H { s with heap := h' } := I.kept (t' := s.toks) kp
  have I2 : Inv X pins σ (upd H h'.objs.size (.frz { cls := .type "tuple", data := .seq its.toArray } (.tup ys))) { s with heap := h'.push { cls := .type "tuple", data := .seq its.toArray } } :=
    I1.laid (t' := s.toks) (fun b o e => Heap.get?_push_of_some _ e) (Nat.le_refl _) (show ObjOk X.prog X.w _ _ _ (.frz _ (.tup ys)) from ⟨Heap.get?_push_size _ rfl, hz, its, r', IsTup.new _ _⟩)
  exact ⟨.ref h'.objs.size, _, I2, rfl, q _ _ rfl (I1.hok.fresh (Nat.le_refl _))⟩
/-- t.index(text), t a tuple of unlike texts, its object known -/
def tTix (K : PySem.W.Frag) (to : TE) (t : TA) : TE := fun σ H Q => to σ H fun x H1 => ∃ a ys, x = .ref a ∧ Ftp H1 a ys ∧ t σ H1 fun vs H2 => ∃ (zs : List Str) (z : Str) (j : Nat), vs = [.str z] ∧ SqT K H2 a (zs.map V.str) ∧ zs[j]? = some z ∧ (∀ m, m < j → zs[m]? ≠ some z) ∧ Q (.int (j : Nat)) H2
variable {o e : Expr} {to : TE} {t : TA} {apos cpos : Pos}
theorem pe_tix (ho : PE X o to) (ha : PA X [e] t)
    (hbase : attributeBase o "index" X.env (eval o X.env) = eval o X.env := by rfl)
    (hfew : ((backTo cpos (starEach [e] X.env)).all (fun x => !x.1) && (backToKw cpos (keywordEach [] X.env)).all (fun x => x.1.isSome)
      && decide ([e].length + ([] : List Keyword).length + (if ([] : List Keyword).isEmpty then 0 else 1) < 30)) = true := by rfl)
    (hline : (apos.endLine == cpos.line) = true := by rfl) (hs : starEach [e] X.env = (false, eval e X.env) :: starEach [] X.env := by rfl) (hplain : (backTo cpos (starEach [] X.env)).any (·.1) = false := by rfl) :
    PE X (.Call (.Attribute o "index" apos) [e] [] cpos) (tTix X.K to t) := by
  refine ⟨fun pins s σ H Q I h => ?_⟩
  refine wpAny_Call_method_late hbase hfew hline rfl (thn (ho.run pins s σ H _ I h) fun v s1 ⟨x, H1, I1, r1, a, ys, ex, ⟨ob, hd, hob⟩, q1⟩ => ?_)
  subst ex
  cases r1
  obtain ⟨g1, _, its, _, isT⟩ := (show ObjOk X.prog X.w H1 s1.heap a (.frz ob (.tup ys)) from I1.hok a _ hob)
  refine ⟨"tuple", "tuple.index", PySem.F.plainAttrs_tuple, PySem.F.slot_tuple_index, PySem.F.type_tuple_index, isT.typeIs, fun b eb => ?_, ?_⟩
  · cases eb
    exact ⟨ob, g1, hd⟩
  · have hA := ha.run cpos pins s1 σ H1 _ I1 q1
    rw [hs] at hA ⊢
    refine Calls.callWith_builtin (by show (false || (backTo cpos (starEach [] X.env)).any (·.1)) = false; rw [hplain] <;> rfl) (Calls.evalArgs_plain ?_)
    exact thn hA fun us s2 ⟨vs, H2, I2, r2, zs, z, j, ev, q2, q3, q4, q5⟩ => mt_tup_index pins s2 σ H2 (.ref a) vs (.ref a) us Q I2 rfl r2 ⟨a, zs, z, j, rfl, ev, q2, q3, q4, q5⟩
end
end Ah
set_option Elab.async false
set_option linter.all false
set_option maxRecDepth 100000
set_option maxHeartbeats 2000000
/-! sorted(t), t a tuple (or list) of texts -/
namespace PySem
open Sem (wp)
open AutoSeq1 (wpAny_loadPart')
section
variable {prog : Program} {w : World} {A : Around} {E : Value → Shared → Prop} {s : Shared}
/-- what a sequence holds, as a list: the heap behind -/
theorem collect_at {Q : List Value → Shared → Prop} (it : Addr) {T : String} {o : Obj} {items : Array Value} {n : Nat} (hT : T = "list" ∨ T = "tuple") (ho : s.heap.get? it = some o) (hc : o.cls = .type T) (hd : o.data = .seq items n)
    (hQ : ∀ h' : Heap, (∀ b u, s.heap.get? b = some u → h'.get? b = some u) → s.heap.objs.size ≤ h'.objs.size → Q items.toList { s with heap := h' }) (hsz : items.size ≤ sizeLine) : wpAny (model prog w) A (collect (.ref it)) Q E s := by
  unfold collect
  refine wpAny_bind (wpAny_runValue (codeAny_builtin F.entry_proto_collect ?_))
  rw [Around.under_plainId F.plain_proto_collect _]
  show wpAny _ A.in1 (newList [] >>= fun l => again (.builtin "list.__iadd__" ⟨[l, .ref it], []⟩)) _ _ s
  refine wpAny_bind (wpAny_newObj_type (wpAny_pure ⟨plainId_quiet F.plain_list_iadd _, codeAny_builtin F.entry_list_iadd ?_⟩))
  rw [Around.under_plainId F.plain_list_iadd _]
  have new : (s.heap.push { cls := .type "list", data := .seq ([] : List Value).toArray }).get? s.heap.objs.size = some { cls := .type "list", data := .seq #[] 0 } := Heap.get?_push_size _ rfl
  have read : wpAny (model prog w) A (match Value.ref s.heap.objs.size with
      | Value.ref a => do
        match (← load a).data with
          | Data.seq xs _ => pure xs.toList
          | _ => unsupported "internal:collect"
      | _ => unsupported "internal:collect") Q E { s with heap := (s.heap.push { cls := .type "list", data := .seq ([] : List Value).toArray }).update s.heap.objs.size (Obj.mapSeq (· ++ items)) } := by
    show wpAny _ A (load s.heap.objs.size >>= _) _ _ _
    refine wpAny_bind (wpAny_load (Heap.get?_update_self (Obj.mapSeq (· ++ items)) new rfl) (wpAny_pure ?_))
    show Q ((#[] : Array Value) ++ items).toList _
    rw [show ((#[] : Array Value) ++ items).toList = items.toList by simp]
    refine hQ _ (fun b u hb => (Heap.get?_update_other _ _ (Nat.ne_of_gt (Heap.lt_size hb))).trans (Heap.get?_push_of_some _ hb)) ?_
    rw [Heap.size_update, PyProof.Rows.size_push']
    exact Nat.le_succ _
  show wpAny _ A.in1 (Builtin.List.listExtendWith (.ref s.heap.objs.size) (.ref it) (.ref s.heap.objs.size)) _ _ _
  refine wpAny_mono (wpAny_extend_seq (hsz := hsz) (A := A) (R := fun r s' => r = .ok (.ret (.ref s.heap.objs.size)) ∧ s' = { s with heap := (s.heap.push { cls := .type "list", data := .seq ([] : List Value).toArray }).update s.heap.objs.size (Obj.mapSeq (· ++ items)) })
    (s := { s with heap := s.heap.push { cls := .type "list", data := .seq ([] : List Value).toArray } }) _ it _ 0 hT new (Heap.get?_push_of_some _ ho) hc hd ⟨rfl, rfl⟩) (fun r s2 z => ?_) fun r s2 z => absurd z.1 (by simp)
  match r, z with
  | .done f, z =>
    obtain ⟨e, rfl⟩ := z
    cases e
    exact read
  | .again c', z =>
    refine ⟨z.1, codeAny_mono z.2 fun r s3 q => ?_⟩
    obtain ⟨rfl, rfl⟩ := q
    exact read
end
end PySem
namespace PyProof.Rows
open PySem PyProof
section
variable {prog : Program} {w : World} {A : Around} {E : Value → Shared → Prop} {s : Shared}
theorem sorted_seqS {l : Addr} {T : String} {o : Obj} {vs : List Value} {n : Nat} {ss : List Str} {Q : Value → Shared → Prop} (hT : T = "list" ∨ T = "tuple") (ho : s.heap.get? l = some o) (hc : o.cls = .type T) (hd : o.data = .seq vs.toArray n) (hS : StrsAre vs ss) (h64 : vs.length < 64)
    (h : ∀ (h' : Heap) (a e : Nat) (out : List Value) (ss' : List Str), (∀ b u, s.heap.get? b = some u → h'.get? b = some u) → s.heap.objs.size ≤ a → h'.get? a = some (seqObj "list" out.toArray e) → StrsAre out ss' → ss'.Perm ss → sortedS ss' = true → Q (.ref a) { s with heap := h' }) :
    wpAny (model prog w) A (call (.builtin "sorted") [.ref l]) Q E s := by
  refine Calls.call_function_entry kind_sorted plain_sorted entry_sorted (args_sorted1 _) ?_
  unfold Builtin.«sorted»
  refine wpAny_bind (m := checkCount "sorted" 1 1 _) (wpAny_pure ?_)
  have hz : vs.toArray.size ≤ sizeLine := by rw [List.size_toArray, sizeLine_eq]; omega
  refine wpAny_bind (PySem.collect_at l hT ho hc hd (fun h1 k1 big => ?_) hz)
  refine wpAny_bind (wpAny_newList ?_)
  have hoL : (h1.push (seqObj "list" vs.toArray 0)).get? h1.objs.size = some (seqObj "list" vs.toArray 0) := Heap.get?_push_size _ rfl
  show wpAny _ _ _ _ _ { s with heap := h1.push (seqObj "list" vs.toArray 0) }
  refine wpAny_bind (wpAny_holding (wpAny_call_entry slot_list_sort ⟨_, hoL, rfl⟩ entry_list_sort (list_sort_treeK strKind_oneLt hoL hS.keysOf (fun v₁ v₂ rest e => keyKind_strs (by rw [← e]; exact hS)) h64 fun st' a1 a2 => ⟨_, rfl, ?_⟩) (args_list_sort _)))
  refine wpAny_pure ⟨_, rfl, ?_⟩
  obtain ⟨ss', b1, b2, b3⟩ := sorted_out_str hS a1 a2
  obtain ⟨e, he⟩ := sortedHeap_at (out := (arrOf st').map (·.2)) hoL
  refine h _ _ e ((arrOf st').map (·.2)).toList ss' (fun b u hb => ?_) big he b1 b2 b3
  have hb1 := k1 b u hb
  have hlt := Heap.lt_size hb1
  rw [sortedHeap_old (Nat.ne_of_lt hlt) (by rw [size_push']; exact Nat.lt_succ_of_lt hlt)]
  exact Heap.get?_push_of_some _ hb1
end
end PyProof.Rows
namespace Ah
open PySem PySem.Spec PyProof.Rows L2
def rSortedTS (K : PySem.W.Frag) : List V → Hp → VK → Prop := fun vs H Q => ∃ (a : Addr) (xs : List Str), vs = [V.ref a] ∧ (SqL K H a (xs.map V.str) ∨ SqT K H a (xs.map V.str)) ∧ xs.length < 64 ∧ ∀ (ys : List Str) (p : Addr), ys.Perm xs → sortedS ys = true → H p = none → Q (.ref p) (upd H p (.lst (ys.map V.str)))
section
variable {X : Cx}
theorem cr_sortedTS : CallR X (.builtin "sorted") (rSortedTS X.K) := by
  intro pins s σ H vs us Q I r h
  obtain ⟨a, xs, rfl, hs, h64, q⟩ := h
  have fin : ∀ (h' : Heap) (a e : Nat) (out : List Value) (ys : List Str), (∀ b u, s.heap.get? b = some u → h'.get? b = some u) → s.heap.objs.size ≤ a → h'.get? a = some (seqObj "list" out.toArray e) → StrsAre out ys → ys.Perm xs → sortedS ys = true → EP X pins σ Q (.ref a) { s with heap := h' } := fun h' a e out ys k ha he h1 h2 h3 => by
    have hlen : (ys.map V.str).length ≤ sizeLine := by rw [List.length_map, h2.length_eq]; exact small64 h64
    exact ⟨.ref _, upd H a (.lst (ys.map V.str)), I.laid (t' := s.toks) k ha ⟨hlen, out, e, vals_of_strs h1, he⟩, rfl, q ys _ h2 h3 (I.hok.fresh ha)⟩
  rcases hs with hs | hs
  · obtain ⟨its, rv, ⟨o, n, e, c, d, dd⟩, _⟩ := I.list hs
    rw [Vals.ref1 r]
    have hlen0 := rv.length
    rw [List.length_map] at hlen0
    exact PyProof.Rows.sorted_seqS (.inl rfl) e c dd rv.strs (by rw [← hlen0]; exact h64) fin
  · obtain ⟨its, rv, ⟨o, e, c, n, dd⟩, _⟩ := I.tuple hs
    rw [Vals.ref1 r]
    have hlen0 := rv.length
    rw [List.length_map] at hlen0
    exact PyProof.Rows.sorted_seqS (.inr rfl) e c dd rv.strs (by rw [← hlen0]; exact h64) fin
end
end Ah
set_option Elab.async false
set_option linter.all false
set_option maxRecDepth 100000
set_option maxHeartbeats 4000000
namespace Ah
open PySem PySem.Spec PyProof.Rows L2
theorem drop_one {α : Type} {l : List α} {p : Nat} {x : α} (h : l[p]? = some x) : (l.drop p).take 1 = [x] := by
  obtain ⟨hp, e⟩ := List.getElem?_eq_some_iff.mp h
  rw [List.drop_eq_getElem_cons hp, e]
  rfl
theorem rd_to {H : Hp} {a : Addr} {xs ys : List V} (h : Rd H a (.tup xs)) (e : xs = ys) : Rd H a (.tup ys) := e ▸ h
theorem slA {K : PySem.W.Frag} {H : Hp} {a : Addr} {xs : List V} {lo hi : Option Int} {Q : VK} (ha : Rd H a (.tup xs)) (k : ∀ b H', Same H H' → Rd H' b (.tup (cutV xs lo hi)) → Q (.ref b) H') : rSlA K (.ref a) lo hi H Q := by
  refine ⟨a, xs, rfl, .inl ha, fun w => k a H (Same.refl H) ?_, fun _ b hb => k b _ (same_new hb) (.inl upd_same)⟩
  unfold cutV
  rw [w.1, w.2, List.drop_zero, Nat.sub_zero, List.take_length]
  exact ha
theorem catA {K : PySem.W.Frag} {H : Hp} {a b : Addr} {xs ys : List V} {Q : VK} (ha : Rd H a (.tup xs)) (hb : Rd H b (.tup ys)) (hz : xs.length + ys.length ≤ 1000) (k : ∀ c H', Same H H' → Rd H' c (.tup (xs ++ ys)) → Q (.ref c) H') : rCatA K (.ref a) (.ref b) H Q := by
  refine ⟨a, b, xs, ys, rfl, rfl, .inl ha, .inl hb, ?_, fun e => ?_, fun _ e => ?_, fun _ _ c hc => k c _ (same_new hc) (.inl upd_same)⟩
  · exact Nat.le_of_lt (small1000 hz)
  · subst e
    exact k b H (Same.refl H) hb
  · subst e
    exact k a H (Same.refl H) (by rw [List.append_nil]; exact ha)
theorem cutV_to {xs : List V} {p : Nat} (h : p ≤ xs.length) : cutV xs none (some (p : Int)) = xs.take p := by
  unfold cutV
  rw [HT.sIx_none, HT.sIx_nat, List.drop_zero, Nat.sub_zero, Nat.min_eq_left h]
theorem cutV_from {xs : List V} {p : Nat} (h : p ≤ xs.length) : cutV xs (some (p : Int)) none = xs.drop p := by
  unfold cutV
  rw [HT.sIx_none, HT.sIx_nat, Nat.min_eq_left h]
  exact List.take_of_length_le (by rw [List.length_drop]; omega)
section
variable {P : Program} {w : World} {K : PySem.W.Frag} {mg : Str → Option Value} {base : Heap}
end
end Ah
set_option Elab.async false
set_option linter.all false
set_option maxRecDepth 100000
set_option maxHeartbeats 4000000
namespace Ah
open PySem PySem.Spec PyProof.Rows L2
theorem newF {H : Hp} {xs : List V} {Q : VK} (k : ∀ b H', Same H H' → Ftp H' b xs → Q (.ref b) H') : NewF H xs Q := fun p o d hp => k p _ (same_new hp) ⟨o, d, upd_same⟩
theorem ftp_kp {p a : Addr} {xs : List V} {H H' : Hp} (k : Kp p H H') {kvs : List (Key × V)} (hp : H p = some (.dK kvs)) (h : Ftp H a xs) : Ftp H' a xs := by
  obtain ⟨o, d, h⟩ := h
  refine ⟨o, d, k a _ (fun e => ?_) h⟩
  rw [e, hp] at h
  cases h
theorem catF {K : PySem.W.Frag} {H : Hp} {a b : Addr} {xs ys : List V} {Q : VK} (ha : Rd H a (.tup xs)) (hb : Rd H b (.tup ys)) (h1 : xs = [] → Ftp H b ys) (h2 : ys = [] → Ftp H a xs) (hz : xs.length + ys.length ≤ 1000) (k : ∀ c H', Same H H' → Ftp H' c (xs ++ ys) → Q (.ref c) H') : rCatF K (.ref a) (.ref b) H Q := by
  refine ⟨a, b, xs, ys, rfl, rfl, .inl ha, .inl hb, Nat.le_of_lt (small1000 hz), fun e => ?_, fun _ e => ?_, fun _ _ => newF k⟩
  · have := h1 e
    subst e
    exact k b H (Same.refl H) this
  · have := h2 e
    subst e
    exact k a H (Same.refl H) (by rw [List.append_nil]; exact this)
theorem perm_map_inv {α β : Type} {f : α → β} {l ys : List β} (h : ys.Perm l) : ∀ {xs : List α}, l = xs.map f → ∃ zs : List α, zs.Perm xs ∧ ys = zs.map f := by
  induction h with
  | nil =>
    intro xs e
    cases xs with
    | nil => exact ⟨[], .nil, rfl⟩
    | cons _ _ => cases e
  | cons x _ ih =>
    intro xs e
    cases xs with
    | nil => cases e
    | cons a r =>
      obtain ⟨rfl, e2⟩ := List.cons.inj e
      obtain ⟨zs, h1, h2⟩ := ih e2
      exact ⟨a :: zs, h1.cons a, by rw [List.map_cons, h2]⟩
  | swap x y l =>
    intro xs e
    cases xs with
    | nil => cases e
    | cons a r =>
      obtain ⟨rfl, e2⟩ := List.cons.inj e
      cases r with
      | nil => cases e2
      | cons b t =>
        obtain ⟨rfl, rfl⟩ := List.cons.inj e2
        exact ⟨b :: a :: t, List.Perm.swap a b t, rfl⟩
  | trans _ _ ih1 ih2 =>
    intro xs e
    obtain ⟨zs, h1, h2⟩ := ih2 e
    obtain ⟨ws, h3, h4⟩ := ih1 h2
    exact ⟨ws, h3.trans h1, h4⟩
abbrev sLawRow : Stmt := topS 30
section
variable {P : Program} {w : World} {K : PySem.W.Frag} {mg : Str → Option Value} {base : Heap}
theorem scLawRow : FnScope ["pen", "hands"] ["pen", "hands"] (defScope sLawRow) := ⟨rfl, rfl, rfl, by decide +kernel, rfl, by decide +kernel, by decide +kernel⟩
def spLawRow : Sp := fun vs H Q _ => ∃ (p c a : Addr) (xs : List Str) (n : Nat), vs = [.ref p, .ref a] ∧ LTu H a (xs.map V.str) ∧ (∀ x ∈ xs, IsHand x) ∧ xs.length ≤ 60 ∧ PenAt H p c n ∧ n + 60 < 1000000 ∧
  ∀ (b : Addr) (ys : List Str) (H' : Hp), ys.Perm xs → Ftp H' b (ys.map V.str) → PenAt H' p c (n + xs.length) → Kp p H H' → Q (.ref b) H'
theorem ok_lawRow {f f1 : Addr} {fd fd1 : FuncData} (F : Fun K "_law_row" "_law_row" sLawRow f fd) (B : Blt2 mg) (D : Df P w K mg base CX0 "_law_shuffled" 2 f1 fd1 ["pen", "some"] (spShuf K)) : FnOk P w K mg base CX0 3 f fd ["pen", "hands"] spLawRow := by
  refine F.ok scLawRow (fun vs H Q E h => ?_) (fun cdv A outer s H vs Q E hr h => ?_)
  · obtain ⟨p, c, a, xs, n, rfl, _⟩ := h
    rfl
  · obtain ⟨p, c, a, xs, n, rfl, ha, hh, hl, hp, hn, k⟩ := h
    refine ⟨_, pss_one (ps_ret (pe_callTy call_tuple_ofF (by rfl) B.tuple (by decide +kernel) (pa_cons (pe_call D.ok hr rfl D.g D.kp D.b .nil pass0 (pa_cons (pv 0) (pa_cons (pe_callB cr_sortedTS (by rfl) B.sorted (by decide +kernel) (pa_cons (pv 1) pa_nil)) pa_nil))) pa_nil))), ?_⟩
    refine ⟨_, rfl, _, rfl, a, xs, rfl, ha.sq, by omega, fun ys s py sy hs => ?_⟩
    have hy : ∀ y ∈ ys, IsHand y := fun y z => hh y (py.mem_iff.mp z)
    refine ⟨p, c, s, ys.map V.str, ys.map PyData.str, n, rfl, .inl (SqL.of upd_same), dp_strs ys, fun d hd => ?_, ?_, hp.keep (same_new hs), ?_, fun q zs H2 pz hq eq hp2 kp2 => ?_⟩
    · obtain ⟨y, z, rfl⟩ := List.mem_map.mp hd
      exact shp_str (hy y z).ok
    · rw [List.length_map, py.length_eq]
      omega
    · rw [List.length_map, py.length_eq]
      omega
    obtain ⟨ws, pw, rfl⟩ := perm_map_inv pz rfl
    refine ⟨q, ws.map V.str, rfl, SqL.of eq, newF fun b H3 s3 f3 => ?_⟩
    rw [List.length_map, py.length_eq] at hp2
    exact k b ws H3 (pw.trans py) f3 (hp2.keep s3) ((Kp.new hs).trans (kp2.trans (Kp.same s3)))
end
end Ah
set_option Elab.async false
set_option linter.all false
set_option maxRecDepth 100000
set_option maxHeartbeats 4000000
namespace Ah
open PySem PySem.Spec PyProof.Rows L2
/-- over a tuple's numbered items, a dict -/
theorem dc_enumT {K : PySem.W.Frag} {a : Addr} {xs : List V} {g : TG} {tt : TT} {tk tv : TE} {vs : List Nat} {σ : L2.St} {H1 : Hp} {D : Addr} {Qd : Hp → Prop} (Pv : Nat → Hp → Prop) (h0 : Pv 0 (upd H1 D (.dK []))) (hl : ∀ i H, i ≤ xs.length → Pv i H → SqT K H a xs)
    (hs : ∀ i x H T, xs[i]? = some x → Pv i H → H T = none → g (.ref T) (wipe σ vs) (upd H T (.tup [.int (i : Nat), x])) fun σ2 H2 => wipe σ2 vs = wipe σ vs ∧ tt σ2 H2 fun b H3 =>
      if b = true then tk σ2 H3 fun y H4 => tv σ2 H4 fun z H5 => ∃ kvs k, y = kV k ∧ H5 D = some (.dK kvs) ∧ kvs.length < sizeLine ∧ Pv (i + 1) (upd H5 D (.dK (putK kvs k z))) else Pv (i + 1) H3) (hd : ∀ H, Pv xs.length H → Qd H) :
    ∃ W : Nat → Nat → Hp → Prop, (∃ m, W 0 m (upd H1 D (.dK []))) ∧ ∀ i m H, W i m H →
      ((IteT K a).stop i H ∧ Qd H) ∨ ((IteT K a).go i H ∧ ∃ Nx : Hp → Prop, (∀ H', Nx H' → ∃ m', m' < m ∧ W (i + 1) m' H') ∧ ∀ x H', (IteT K a).yld i H x H' → g x (wipe σ vs) H' fun σ2 H2 => wipe σ2 vs = wipe σ vs ∧ tt σ2 H2 fun b H3 =>
        if b = true then tk σ2 H3 fun y H4 => tv σ2 H4 fun z H5 => ∃ kvs k, y = kV k ∧ H5 D = some (.dK kvs) ∧ kvs.length < sizeLine ∧ Nx (upd H5 D (.dK (putK kvs k z))) else Nx H3) := by
  refine ⟨fun i m H => m = xs.length - i ∧ i ≤ xs.length ∧ Pv i H, ⟨xs.length, by simp, Nat.zero_le _, h0⟩, ?_⟩
  rintro i m H ⟨rfl, hi, p⟩
  have q := hl i H hi p
  by_cases hlt : i < xs.length
  · refine .inr ⟨⟨xs, xs[i], q, by simp [hlt]⟩, Pv (i + 1), fun H' p' => ⟨xs.length - (i + 1), by omega, rfl, hlt, p'⟩, fun x H' y => ?_⟩
    obtain ⟨T, u, rfl, hT, rfl, y⟩ := y
    exact hs i u _ T (y xs q) p hT
  · have e : i = xs.length := by omega
    subst e
    exact .inl ⟨⟨xs, q, Nat.le_refl _⟩, hd H p⟩
/-- where each of them stands -/
def SpotsN (H : Hp) (D : Addr) (xs : List Str) (n : Nat) : Prop := ∃ kvs, H D = some (.dK kvs) ∧ kvs.length ≤ n ∧ ∀ j x, j < n → xs[j]? = some x → valV kvs (Sum.inr x : Key) = some (.int (j : Nat))
theorem SpotsN.same {H H' : Hp} {D : Addr} {xs : List Str} {n : Nat} (k : Same H H') (h : SpotsN H D xs n) : SpotsN H' D xs n := by
  obtain ⟨kvs, h1, h2⟩ := h
  exact ⟨kvs, k _ _ h1, h2⟩
theorem SpotsN.put {H : Hp} {D : Addr} {xs : List Str} {n : Nat} {x : Str} (nd : xs.Nodup) (hx : xs[n]? = some x) (h : SpotsN H D xs n) (hn : n ≤ 1000) :
    ∃ kvs, H D = some (.dK kvs) ∧ kvs.length < sizeLine ∧ SpotsN (upd H D (.dK (putK kvs (Sum.inr x : Key) (.int (n : Nat))))) D xs (n + 1) := by
  obtain ⟨kvs, h1, h2, h3⟩ := h
  refine ⟨kvs, h1, small1000 (by omega), _, upd_same, ?_, fun j y hj hy => ?_⟩
  · exact Nat.le_trans (DSub.putK_len _ _ _) (by omega)
  · rw [valV_put]
    by_cases e : j = n
    · subst e
      rw [hx] at hy
      obtain rfl := Option.some.inj hy
      rw [if_pos rfl]
    · have hl := (List.getElem?_eq_some_iff.mp hy)
      have hl2 := (List.getElem?_eq_some_iff.mp hx)
      rw [if_neg (fun z => e ?_)]
      · exact h3 j y (by omega) hy
      · obtain ⟨a1, a2⟩ := hl
        obtain ⟨b1, b2⟩ := hl2
        have z' : y = x := Sum.inr.inj z
        exact nd_inj nd a1 b1 (by rw [a2, b2, z'])
theorem none_of {H H' : Hp} {a : Addr} (k : Same H H') (h : H' a = none) : H a = none := by
  cases e : H a with
  | none => rfl
  | some o => rw [k a o e] at h; cases h
theorem getD_at {xs : List Str} {i : Nat} (h : i < xs.length) : xs[i]? = some (xs.getD i default) := by
  rw [List.getD_eq_getElem?_getD, List.getElem?_eq_getElem h]
  rfl
theorem idx_at {ys : List Str} {x : Str} (h : x ∈ ys) : ys[ys.idxOf x]? = some x := by
  have hl := List.idxOf_lt_length_of_mem h
  rw [List.getElem?_eq_getElem hl, List.getElem_idxOf hl]
theorem SpotsN.start {H : Hp} {D : Addr} {xs : List Str} : SpotsN (upd H D (.dK [])) D xs 0 := ⟨[], upd_same, Nat.le_refl _, fun j _ h => absurd h (Nat.not_lt_zero _)⟩
theorem spots_get {H : Hp} {D : Addr} {xs : List Str} {j : Nat} {x : Str} (h : SpotsN H D xs xs.length) (hx : xs[j]? = some x) : DGet H D (.str x) (some (.int (j : Nat))) := by
  obtain ⟨kvs, h1, _, h3⟩ := h
  have q := DGet.k (k := (Sum.inr x : Key)) h1
  rw [h3 j x (List.getElem?_eq_some_iff.mp hx).1 hx] at q
  exact q
section
variable {P : Program} {w : World} {K : PySem.W.Frag} {mg : Str → Option Value} {base : Heap}
end
end Ah
set_option Elab.async false
set_option linter.all false
set_option maxRecDepth 100000
set_option maxHeartbeats 4000000
namespace Ah
open PySem PySem.Spec PyProof.Rows L2
open PySem.W (AllAlike Sortable)
/-- one walk over a tuple's numbered items -/
theorem out_enumT {K : PySem.W.Frag} {a : Addr} {xs : List V} {H0 : Hp} {Qd : Hp → Prop} {body : V → Hp → (Hp → Prop) → Prop} (Pv : Nat → Hp → Prop) (h0 : Pv 0 H0) (hl : ∀ i H, i ≤ xs.length → Pv i H → SqT K H a xs)
    (hs : ∀ i x H T, xs[i]? = some x → Pv i H → H T = none → body (.ref T) (upd H T (.tup [.int (i : Nat), x])) (Pv (i + 1))) (hd : ∀ H, Pv xs.length H → Qd H) :
    ∃ W : Nat → Nat → Hp → Prop, (∃ m, W 0 m H0) ∧ ∀ i m H, W i m H →
      ((IteT K a).stop i H ∧ Qd H) ∨ ((IteT K a).go i H ∧ ∃ Nx : Hp → Prop, (∀ H', Nx H' → ∃ m', m' < m ∧ W (i + 1) m' H') ∧ ∀ x H', (IteT K a).yld i H x H' → body x H' Nx) := by
  refine ⟨fun i m H => m = xs.length - i ∧ i ≤ xs.length ∧ Pv i H, ⟨xs.length, by simp, Nat.zero_le _, h0⟩, ?_⟩
  rintro i m H ⟨rfl, hi, p⟩
  have q := hl i H hi p
  by_cases hlt : i < xs.length
  · refine .inr ⟨⟨xs, xs[i], q, by simp [hlt]⟩, Pv (i + 1), fun H' p' => ⟨xs.length - (i + 1), by omega, rfl, hlt, p'⟩, fun x H' y => ?_⟩
    obtain ⟨T, u, rfl, hT, rfl, y⟩ := y
    exact hs i u _ T (y xs q) p hT
  · have e : i = xs.length := by omega
    subst e
    exact .inl ⟨⟨xs, q, Nat.le_refl _⟩, hd H p⟩
/-- one walk over a tuple -/
theorem out_tup {K : PySem.W.Frag} {a : Addr} {xs : List V} {H0 : Hp} {Qd : Hp → Prop} {body : V → Hp → (Hp → Prop) → Prop} (Pv : Nat → Hp → Prop) (h0 : Pv 0 H0) (hl : ∀ i H, i ≤ xs.length → Pv i H → SqT K H a xs)
    (hs : ∀ i x H, xs[i]? = some x → Pv i H → body x H (Pv (i + 1))) (hd : ∀ H, Pv xs.length H → Qd H) :
    ∃ W : Nat → Nat → Hp → Prop, (∃ m, W 0 m H0) ∧ ∀ i m H, W i m H →
      ((Itt K a).stop i H ∧ Qd H) ∨ ((Itt K a).go i H ∧ ∃ Nx : Hp → Prop, (∀ H', Nx H' → ∃ m', m' < m ∧ W (i + 1) m' H') ∧ ∀ x H', (Itt K a).yld i H x H' → body x H' Nx) := by
  refine ⟨fun i m H => m = xs.length - i ∧ i ≤ xs.length ∧ Pv i H, ⟨xs.length, by simp, Nat.zero_le _, h0⟩, ?_⟩
  rintro i m H ⟨rfl, hi, p⟩
  have q := hl i H hi p
  by_cases hlt : i < xs.length
  · refine .inr ⟨⟨xs, xs[i], q, by simp [hlt]⟩, Pv (i + 1), fun H' p' => ⟨xs.length - (i + 1), by omega, rfl, hlt, p'⟩, fun x H' y => ?_⟩
    obtain ⟨rfl, y⟩ := y
    exact hs i x _ (y xs q) p
  · have e : i = xs.length := by omega
    subst e
    exact .inl ⟨⟨xs, q, Nat.le_refl _⟩, hd H p⟩
/-- how many pairs stand the other way round by rk -/
def cntLt (rk : Str → Nat) (a : Str) (l : List Str) : Nat := (l.filter fun b => decide (rk b < rk a)).length
def invsN (rk : Str → Nat) (xs : List Str) (n : Nat) : Nat := ((List.range n).map fun k => cntLt rk (xs.getD k default) (xs.drop (k + 1))).sum
def invs (rk : Str → Nat) (xs : List Str) : Nat := invsN rk xs xs.length
theorem invsN_succ (rk : Str → Nat) (xs : List Str) (n : Nat) : invsN rk xs (n + 1) = invsN rk xs n + cntLt rk (xs.getD n default) (xs.drop (n + 1)) := by
  unfold invsN
  rw [List.range_succ, List.map_append, List.sum_append]
  simp
theorem cntLt_le (rk : Str → Nat) (a : Str) (l : List Str) : cntLt rk a l ≤ l.length := List.length_filter_le _ _
theorem invsN_le (rk : Str → Nat) (xs : List Str) : ∀ n, invsN rk xs n ≤ n * xs.length
  | 0 => by simp [invsN]
  | n + 1 => by
    rw [invsN_succ, Nat.succ_mul]
    have := invsN_le rk xs n
    have h2 := cntLt_le rk (xs.getD n default) (xs.drop (n + 1))
    rw [List.length_drop] at h2
    omega
def prD (p : Str × Str) : PyData := .tuple [.str p.1, .str p.2]
theorem dpAll_snoc {K : PySem.W.Frag} {H : Hp} : ∀ {vs : List V} {ds : List PyData} {v : V} {d : PyData}, DpAll K H vs ds → Dp K H v d → DpAll K H (vs ++ [v]) (ds ++ [d])
  | _, _, _, _, .nil, h => .cons h .nil
  | _, _, _, _, .cons h t, h' => .cons h (dpAll_snoc t h')
theorem prs_alike (ps : List (Str × Str)) : AllAlike (ps.map prD) := AllAlike.of fun b b' => by
  unfold prD
  simp [PySem.W.alike, PySem.W.alikeAll]
theorem prs_sortable (ps : List (Str × Str)) : Sortable (ps.map prD) := Sortable.tuples fun b => ⟨_, _, rfl⟩
theorem prs_depth (ps : List (Str × Str)) : ∀ d ∈ ps.map prD, d.depth ≤ 60 := by
  intro d hd
  obtain ⟨p, _, rfl⟩ := List.mem_map.mp hd
  unfold prD
  simp [PyData.depth, PyData.depthAll]
def PrAt (H : Hp) (v : V) : Prop := ∃ (T : Addr) (p : Str × Str), v = .ref T ∧ H T = some (.tup [.str p.1, .str p.2])
def PrsAt (H : Hp) (D : Addr) (m : Nat) : Prop := ∃ acc : List V, H D = some (.lst acc) ∧ (∀ v ∈ acc, PrAt H v) ∧ acc.length = m
theorem rd_ne {H : Hp} {b D : Addr} {acc xs : List V} (hD : H D = some (.lst acc)) (h : Rd H b (.tup xs)) : b ≠ D := fun z => by
  subst z
  rcases h with h | ⟨o, h⟩
  · rw [hD] at h; cases h
  · rw [hD] at h; cases h
theorem PrAt.same {H H' : Hp} {v : V} (k : Same H H') (h : PrAt H v) : PrAt H' v := by
  obtain ⟨T, p, e, h⟩ := h
  exact ⟨T, p, e, k _ _ h⟩
theorem PrAt.mut {H : Hp} {v : V} {D : Addr} {acc acc' : List V} (hD : H D = some (.lst acc)) (h : PrAt H v) : PrAt (upd H D (.lst acc')) v := by
  obtain ⟨T, p, e, h⟩ := h
  refine ⟨T, p, e, ?_⟩
  rw [upd_ne (fun z => by rw [z, hD] at h; cases h)]
  exact h
theorem PrsAt.same {H H' : Hp} {D : Addr} {m : Nat} (k : Same H H') (h : PrsAt H D m) : PrsAt H' D m := by
  obtain ⟨acc, h1, h2, h3⟩ := h
  exact ⟨acc, k _ _ h1, fun v hv => (h2 v hv).same k, h3⟩
theorem PrsAt.snoc {H : Hp} {D T : Addr} {m : Nat} {a b : Str} (hT : H T = none) (hm : m ≤ 1000) (h : PrsAt H D m) : ∃ acc, upd H T (.tup [.str a, .str b]) D = some (.lst acc) ∧ acc.length < sizeLine ∧ PrsAt (upd (upd H T (.tup [.str a, .str b])) D (.lst (acc ++ [.ref T]))) D (m + 1) := by
  obtain ⟨acc, h1, h2, h3⟩ := h.same (same_new (o := .tup [.str a, .str b]) hT)
  refine ⟨acc, h1, small1000 (by omega), acc ++ [.ref T], upd_same, fun v hv => ?_, by rw [List.length_append, h3]; rfl⟩
  rcases List.mem_append.mp hv with z | z
  · exact (h2 v z).mut h1
  · rw [List.mem_singleton.mp z]
    exact PrAt.mut h1 ⟨T, (a, b), rfl, upd_same⟩
theorem prs_data {K : PySem.W.Frag} {H : Hp} : ∀ {acc : List V}, (∀ v ∈ acc, PrAt H v) → ∃ ps : List (Str × Str), DpAll K H acc (ps.map prD)
  | [], _ => ⟨[], .nil⟩
  | v :: acc, h => by
    obtain ⟨ps, hp⟩ := prs_data (K := K) fun u hu => h u (List.mem_cons_of_mem _ hu)
    obtain ⟨T, p, rfl, hT⟩ := h v List.mem_cons_self
    exact ⟨p :: ps, .cons (.tup (.inl (.inl hT)) (.cons (.str _) (.cons (.str _) .nil))) hp⟩
theorem prs_sorted {K : PySem.W.Frag} {H : Hp} {D : Addr} {m : Nat} {Q : VK} (h : PrsAt H D m) (k : ∀ b zs, H b = none → zs.length = m → Q (.ref b) (upd H b (.lst zs))) : rSortedD K [.ref D] H Q := by
  obtain ⟨acc, h1, h2, h3⟩ := h
  obtain ⟨ps, hp⟩ := prs_data (K := K) h2
  exact ⟨D, acc, ps.map prD, rfl, SqL.of h1, hp, prs_alike ps, prs_sortable ps, prs_depth ps, fun ys b hy _ hb => k b ys hb (by rw [hy.length_eq, h3])⟩
section
variable {P : Program} {w : World} {K : PySem.W.Frag} {mg : Str → Option Value} {base : Heap}
end
end Ah
set_option Elab.async false
set_option linter.all false
namespace Ah
/-! ### pairs: what follows of them -/
/-- a row of pairs leads from the one to the other -/
inductive Lead {α : Type} (ps : List (α × α)) : α → α → Prop
  | one {a b : α} : (a, b) ∈ ps → Lead ps a b
  | step {a b c : α} : Lead ps a b → (b, c) ∈ ps → Lead ps a c
section
variable {α : Type}
theorem Lead.trans {ps : List (α × α)} {a b c : α} (h : Lead ps a b) (k : Lead ps b c) : Lead ps a c := by
  induction k with
  | one m => exact .step h m
  | step _ m ih => exact .step ih m
theorem Lead.sub {ps qs : List (α × α)} {a b : α} (s : ∀ x y, (x, y) ∈ ps → Lead qs x y) (h : Lead ps a b) : Lead qs a b := by
  induction h with
  | one m => exact s _ _ m
  | step _ m ih => exact ih.trans (s _ _ m)
theorem Lead.left {ps : List (α × α)} {hs : List α} (s : ∀ x y, (x, y) ∈ ps → x ∈ hs ∧ y ∈ hs) {a b : α} (h : Lead ps a b) : a ∈ hs ∧ b ∈ hs := by
  induction h with
  | one m => exact s _ _ m
  | step _ m ih => exact ⟨ih.1, (s _ _ m).2⟩
/-- what is led to, if it is closed, is what stands there -/
theorem Lead.closed {ps : List (α × α)} (t : ∀ x y z, (x, y) ∈ ps → (y, z) ∈ ps → (x, z) ∈ ps) {a b : α} : Lead ps a b ↔ (a, b) ∈ ps := by
  refine ⟨fun h => ?_, .one⟩
  induction h with
  | one m => exact m
  | step _ m ih => exact t _ _ _ ih m
theorem Lead.same {ps qs : List (α × α)} (e : ∀ x y, (x, y) ∈ qs ↔ Lead ps x y) {a b : α} : Lead qs a b ↔ Lead ps a b := by
  rw [Lead.closed fun x y z h k => (e _ _).mpr (((e _ _).mp h).trans ((e _ _).mp k))]
  exact e a b
theorem Lead.congr {ps qs : List (α × α)} (e : ∀ p, p ∈ ps ↔ p ∈ qs) {a b : α} : Lead ps a b ↔ Lead qs a b :=
  ⟨Lead.sub fun _ _ h => .one ((e _).mp h), Lead.sub fun _ _ h => .one ((e _).mpr h)⟩
/-! one hand behind the other: all ways by it -/
def via (R : α → α → Prop) (b a c : α) : Prop := R a c ∨ (R a b ∧ R b c)
def vias (R : α → α → Prop) : List α → α → α → Prop
  | [] => R
  | b :: bs => vias (via R b) bs
theorem vias_snoc (R : α → α → Prop) : ∀ (bs : List α) (b : α), vias R (bs ++ [b]) = via (vias R bs) b := by
  intro bs
  induction bs generalizing R with
  | nil => intro b; rfl
  | cons c bs ih => intro b; exact ih (via R c) b
theorem vias_grows {R : α → α → Prop} : ∀ (bs : List α) {a c : α}, R a c → vias R bs a c := by
  intro bs
  induction bs generalizing R with
  | nil => exact fun h => h
  | cons b bs ih => exact fun h => ih (.inl h)
theorem via_thru {R : α → α → Prop} {b d : α} (t : ∀ a c, R a d → R d c → R a c) : ∀ a c, via R b a d → via R b d c → via R b a c := by
  intro a c h k
  rcases h with h | ⟨h1, h2⟩ <;> rcases k with k | ⟨k1, k2⟩
  · exact .inl (t a c h k)
  · exact .inr ⟨t a b h k1, k2⟩
  · exact .inr ⟨h1, t b c h2 k⟩
  · exact .inr ⟨h1, k2⟩
theorem via_self {R : α → α → Prop} {b : α} : ∀ a c, via R b a b → via R b b c → via R b a c := by
  intro a c h k
  have h' : R a b := by
    rcases h with h | h
    · exact h
    · exact h.1
  have k' : R b c := by
    rcases k with k | k
    · exact k
    · exact k.2
  exact .inr ⟨h', k'⟩
theorem vias_thru {R : α → α → Prop} : ∀ (bs : List α) (d : α), (d ∈ bs ∨ ∀ a c, R a d → R d c → R a c) → ∀ a c, vias R bs a d → vias R bs d c → vias R bs a c := by
  intro bs
  induction bs generalizing R with
  | nil =>
    intro d h
    rcases h with h | h
    · cases h
    · exact h
  | cons b bs ih =>
    intro d h
    rcases h with h | h
    · rcases List.mem_cons.mp h with h | h
      · subst h
        exact ih d (.inr via_self)
      · exact ih d (.inl h)
    · exact ih d (.inr (via_thru h))
theorem vias_lead {ps : List (α × α)} {R : α → α → Prop} : ∀ (bs : List α), (∀ a c, R a c → Lead ps a c) → ∀ {a c : α}, vias R bs a c → Lead ps a c := by
  intro bs
  induction bs generalizing R with
  | nil => exact fun h a c => h a c
  | cons b bs ih =>
    refine fun h => ih fun a c k => ?_
    rcases k with k | ⟨k1, k2⟩
    · exact h _ _ k
    · exact (h _ _ k1).trans (h _ _ k2)
/-- gone through all hands: just what follows -/
theorem vias_all {ps : List (α × α)} {hs : List α} (s : ∀ x y, (x, y) ∈ ps → x ∈ hs ∧ y ∈ hs) {a c : α} : vias (fun x y => (x, y) ∈ ps) hs a c ↔ Lead ps a c := by
  refine ⟨vias_lead hs fun _ _ h => .one h, fun h => ?_⟩
  induction h with
  | one m => exact vias_grows hs m
  | step _ m ih => exact vias_thru hs _ (.inl (s _ _ m).1) _ _ ih (vias_grows hs m)
end
section
variable {α : Type} [BEq α] [LawfulBEq α]
/-- pairs that a row keeps -/
def KeepR (row : List α) (ps : List (α × α)) : Prop := ∀ x y, (x, y) ∈ ps → x ∈ row ∧ y ∈ row ∧ row.idxOf x < row.idxOf y
theorem KeepR.lead {row : List α} {ps : List (α × α)} (k : KeepR row ps) {a b : α} (h : Lead ps a b) : a ∈ row ∧ b ∈ row ∧ row.idxOf a < row.idxOf b := by
  induction h with
  | one m => exact k _ _ m
  | step _ m ih =>
    obtain ⟨h1, h2, h3⟩ := k _ _ m
    exact ⟨ih.1, h2, Nat.lt_trans ih.2.2 h3⟩
theorem KeepR.irr {row : List α} {ps : List (α × α)} (k : KeepR row ps) {a : α} : ¬ Lead ps a a := fun h => Nat.lt_irrefl _ (k.lead h).2.2
theorem KeepR.of_lead {row : List α} {ps qs : List (α × α)} (k : KeepR row ps) (e : ∀ x y, (x, y) ∈ qs → Lead ps x y) : KeepR row qs := fun x y h => k.lead (e x y h)
/-! hands taken off: those with none of the rest ahead of them -/
def aheadOf (ps : List (α × α)) (left : List α) (b : α) : List α := left.filter fun a => ps.contains (a, b)
def peel (ps : List (α × α)) (left : List α) : List α := left.filter fun b => !(aheadOf ps left b).isEmpty
theorem least_of (f : α → Nat) : ∀ (l : List α), l ≠ [] → ∃ m ∈ l, ∀ x ∈ l, f m ≤ f x
  | [], h => absurd rfl h
  | [a], _ => ⟨a, List.mem_singleton.mpr rfl, fun x hx => by rw [List.mem_singleton.mp hx]; exact Nat.le_refl _⟩
  | a :: b :: l, _ => by
    obtain ⟨m, hm, h⟩ := least_of f (b :: l) (by simp)
    by_cases q : f a ≤ f m
    · refine ⟨a, List.mem_cons_self .., fun x hx => ?_⟩
      rcases List.mem_cons.mp hx with e | hx
      · rw [e]; exact Nat.le_refl _
      · exact Nat.le_trans q (h x hx)
    · refine ⟨m, List.mem_cons_of_mem _ hm, fun x hx => ?_⟩
      rcases List.mem_cons.mp hx with e | hx
      · rw [e]; exact Nat.le_of_lt (Nat.lt_of_not_le q)
      · exact h x hx
theorem peel_lt {row : List α} {ps : List (α × α)} (k : KeepR row ps) {left : List α} (h : left ≠ []) : (peel ps left).length < left.length := by
  obtain ⟨m, hm, hle⟩ := least_of (fun x => row.idxOf x) left h
  unfold peel
  rw [List.length_filter_lt_length_iff_exists]
  refine ⟨m, hm, ?_⟩
  have e : aheadOf ps left m = [] := by
    unfold aheadOf
    rw [List.filter_eq_nil_iff]
    intro a ha c
    have c' : (a, m) ∈ ps := List.contains_iff_mem.mp c
    exact Nat.not_lt.mpr (hle a ha) (k _ _ c').2.2
  rw [e]
  exact fun z => by cases z
theorem peels_le {row : List α} {ps : List (α × α)} (k : KeepR row ps) (left : List α) : ∀ n, (Nat.repeat (peel ps) n left).length ≤ left.length - n
  | 0 => Nat.le_refl _
  | n + 1 => by
    have ih := peels_le k left n
    show (peel ps (Nat.repeat (peel ps) n left)).length ≤ _
    by_cases q : Nat.repeat (peel ps) n left = []
    · rw [q]; exact Nat.zero_le _
    · have := peel_lt k q
      omega
theorem peels_nil {row : List α} {ps : List (α × α)} (k : KeepR row ps) (left : List α) : Nat.repeat (peel ps) left.length left = [] := by
  have := peels_le k left left.length
  exact List.eq_nil_of_length_eq_zero (by omega)
/-! going: what is led to from a hand -/
structure Goes (ps : List (α × α)) (first : α) (found : List α) (n : Nat) : Prop where
  nd : found.Nodup
  hd : first ∈ found
  snd : ∀ x ∈ found, x = first ∨ Lead ps first x
  cl : ∀ i f, i < n → found[i]? = some f → ∀ x, (f, x) ∈ ps → x ∈ found
  le : n ≤ found.length
theorem Goes.init (ps : List (α × α)) (first : α) : Goes ps first [first] 0 :=
  ⟨List.nodup_cons.mpr ⟨List.not_mem_nil, List.nodup_nil⟩, List.mem_singleton.mpr rfl, fun x hx => .inl (List.mem_singleton.mp hx), fun i f h => absurd h (Nat.not_lt_zero _), Nat.zero_le _⟩
theorem Goes.step {ps : List (α × α)} {first f : α} {found new : List α} {n : Nat} (g : Goes ps first found n) (hf : found[n]? = some f) (nd : new.Nodup) (h : ∀ x, x ∈ new ↔ (f, x) ∈ ps ∧ x ∉ found) : Goes ps first (found ++ new) (n + 1) := by
  have hn : n < found.length := by
    rw [List.getElem?_eq_some_iff] at hf
    exact hf.1
  have hfm : f ∈ found := List.mem_of_getElem? hf
  have lf : ∀ x, (f, x) ∈ ps → Lead ps first x := fun x m => by
    rcases g.snd f hfm with e | l
    · rw [← e]; exact .one m
    · exact l.step m
  refine ⟨?_, List.mem_append_left _ g.hd, fun x hx => ?_, fun i f' hi hf' x hx => ?_, ?_⟩
  · rw [List.nodup_append]
    exact ⟨g.nd, nd, fun a ha b hb e => ((h b).mp hb).2 (e ▸ ha)⟩
  · rcases List.mem_append.mp hx with hx | hx
    · exact g.snd x hx
    · exact .inr (lf x ((h x).mp hx).1)
  · rw [List.getElem?_append_left (by omega)] at hf'
    rcases Nat.lt_succ_iff_lt_or_eq.mp hi with q | q
    · exact List.mem_append_left _ (g.cl i f' q hf' x hx)
    · subst q
      rw [hf] at hf'
      obtain rfl := Option.some.inj hf'
      by_cases z : x ∈ found
      · exact List.mem_append_left _ z
      · exact List.mem_append_right _ ((h x).mpr ⟨hx, z⟩)
  · rw [List.length_append]; omega
theorem Goes.done {ps : List (α × α)} {first : α} {found : List α} {n : Nat} (g : Goes ps first found n) (h : found.length ≤ n) {last : α} : last ∈ found ↔ last = first ∨ Lead ps first last := by
  refine ⟨g.snd last, fun k => ?_⟩
  have step : ∀ f, f ∈ found → ∀ x, (f, x) ∈ ps → x ∈ found := fun f hf x hx => by
    obtain ⟨i, hi⟩ := List.mem_iff_getElem?.mp hf
    have : i < found.length := by
      rw [List.getElem?_eq_some_iff] at hi
      exact hi.1
    exact g.cl i f (by omega) hi x hx
  rcases k with e | l
  · rw [e]; exact g.hd
  · induction l with
    | one m => exact step _ g.hd _ m
    | step _ m ih => exact step _ ih _ m
theorem nodup_sub_le : ∀ {l m : List α}, l.Nodup → (∀ x ∈ l, x ∈ m) → l.length ≤ m.length
  | [], _, _, _ => Nat.zero_le _
  | a :: l, m, nd, h => by
    have ha : a ∈ m := h a (List.mem_cons_self ..)
    have nd' := List.nodup_cons.mp nd
    have ih := nodup_sub_le (l := l) (m := m.erase a) nd'.2 fun x hx => by
      have ne : x ≠ a := fun e => nd'.1 (e ▸ hx)
      exact (List.mem_erase_of_ne ne).mpr (h x (List.mem_cons_of_mem _ hx))
    rw [List.length_erase_of_mem ha] at ih
    have : 0 < m.length := List.length_pos_of_mem ha
    rw [List.length_cons]
    omega
theorem Goes.len {ps : List (α × α)} {first : α} {found hs : List α} {n : Nat} (g : Goes ps first found n) (s : ∀ x y, (x, y) ∈ ps → x ∈ hs ∧ y ∈ hs) (hf : first ∈ hs) : found.length ≤ hs.length :=
  nodup_sub_le g.nd fun x hx => by
    rcases g.snd x hx with e | l
    · rw [e]; exact hf
    · exact (l.left s).2
end
end Ah
set_option Elab.async false
set_option linter.all false
set_option maxRecDepth 100000
namespace Ah
open PySem PySem.Spec PyProof.Rows L2
open PySem.W (dataLt dataLe dataLt_pair dataLt_str alike)
/-! ### the order of pairs of texts -/
def sLt (x y : Str) : Prop := x.cps.toList < y.cps.toList
def pLt (p q : Str × Str) : Prop := sLt p.1 q.1 ∨ (p.1 = q.1 ∧ sLt p.2 q.2)
instance (x y : Str) : Decidable (sLt x y) := by unfold sLt; infer_instance
instance (p q : Str × Str) : Decidable (pLt p q) := by unfold pLt; infer_instance
theorem str_of_cps {x y : Str} (h : x.cps.toList = y.cps.toList) : x = y := by
  cases x
  cases y
  exact congrArg Str.mk (Array.toList_inj.mp h)
theorem sLt_irr (x : Str) : ¬ sLt x x := List.lt_irrefl _
theorem sLt_trans {x y z : Str} (h : sLt x y) (k : sLt y z) : sLt x z := List.lt_trans h k
theorem sLt_tri {x y : Str} (h : ¬ sLt x y) (k : ¬ sLt y x) : x = y := str_of_cps (List.le_antisymm (List.not_lt.mp k) (List.not_lt.mp h))
theorem pLt_irr (p : Str × Str) : ¬ pLt p p := fun h => by
  rcases h with h | h
  · exact sLt_irr _ h
  · exact sLt_irr _ h.2
theorem pLt_trans {p q r : Str × Str} (h : pLt p q) (k : pLt q r) : pLt p r := by
  rcases h with h | ⟨h1, h2⟩ <;> rcases k with k | ⟨k1, k2⟩
  · exact .inl (sLt_trans h k)
  · exact .inl (k1 ▸ h)
  · exact .inl (h1 ▸ k)
  · exact .inr ⟨h1.trans k1, sLt_trans h2 k2⟩
theorem pLt_tri {p q : Str × Str} (h : ¬ pLt p q) (k : ¬ pLt q p) : p = q := by
  have e1 : p.1 = q.1 := sLt_tri (fun z => h (.inl z)) (fun z => k (.inl z))
  have e2 : p.2 = q.2 := sLt_tri (fun z => h (.inr ⟨e1, z⟩)) (fun z => k (.inr ⟨e1.symm, z⟩))
  exact Prod.ext e1 e2
theorem eqv_str (x y : Str) : PyData.eqv (.str x) (.str y) = decide (x = y) := by
  have : PyData.eqv (.str x) (.str y) = (x == y) := by simp only [PyData.eqv]
  rw [this]
  by_cases e : x = y
  · rw [decide_eq_true e, e]; simp
  · rw [decide_eq_false e]; simp [e]
theorem dataLt_pr (p q : Str × Str) : dataLt (prD p) (prD q) = decide (pLt p q) := by
  unfold prD
  rw [dataLt_pair (by simp [alike]) (by simp [alike]), dataLt_str, dataLt_str, eqv_str, eqv_str]
  by_cases e : p.1 = q.1
  · rw [if_pos (decide_eq_true e)]
    by_cases e2 : p.2 = q.2
    · rw [if_pos (decide_eq_true e2)]
      symm
      rw [decide_eq_false_iff_not, show p = q from Prod.ext e e2]
      exact pLt_irr q
    · rw [if_neg (by rw [decide_eq_false e2]; exact Bool.false_ne_true)]
      by_cases z : sLt p.2 q.2
      · rw [decide_eq_true (show p.2.cps.toList < q.2.cps.toList from z), decide_eq_true (show pLt p q from .inr ⟨e, z⟩)]
      · rw [decide_eq_false (show ¬ p.2.cps.toList < q.2.cps.toList from z), decide_eq_false (show ¬ pLt p q from fun y => by
          rcases y with y | y
          · rw [e] at y; exact sLt_irr _ y
          · exact z y.2)]
  · rw [if_neg (by rw [decide_eq_false e]; exact Bool.false_ne_true)]
    by_cases z : sLt p.1 q.1
    · rw [decide_eq_true (show p.1.cps.toList < q.1.cps.toList from z), decide_eq_true (show pLt p q from .inl z)]
    · rw [decide_eq_false (show ¬ p.1.cps.toList < q.1.cps.toList from z), decide_eq_false (show ¬ pLt p q from fun y => by
        rcases y with y | y
        · exact z y
        · exact e y.1)]
theorem pLt_nodup {ds : List (Str × Str)} (h : ds.Pairwise pLt) : ds.Nodup := by
  unfold List.Nodup
  refine h.imp ?_
  intro a b h e
  subst e
  exact pLt_irr a h
/-- sorted: just the rising row of the same pairs -/
theorem sort_due {us ds : List (Str × Str)} (nd : us.Nodup) (e : ∀ p, p ∈ us ↔ p ∈ ds) (hp : ds.Pairwise pLt) : sortD (us.map prD) = ds.map prD := by
  unfold sortD
  have s1 := PySem.W.sort_maps (r := fun p q : Str × Str => !decide (pLt q p)) (s := dataLe false fun d : PyData => d) prD (l := us) (fun a _ b _ => by
    show (!decide (pLt b a)) = !dataLt (prD b) (prD a)
    rw [dataLt_pr])
  rw [← s1]
  congr 1
  have ndd : ds.Nodup := pLt_nodup hp
  refine List.Perm.eq_of_pairwise (le := fun p q => (!decide (pLt q p)) = true) (fun a b _ _ h k => ?_) ?_ ?_ ((List.mergeSort_perm _ _).trans ((List.perm_ext_iff_of_nodup nd ndd).mpr e))
  · have h' : ¬ pLt b a := by simpa using h
    have k' : ¬ pLt a b := by simpa using k
    exact pLt_tri k' h'
  · refine List.pairwise_mergeSort (fun a b c h k => ?_) (fun a b => ?_) us
    · have h' : ¬ pLt b a := by simpa using h
      have k' : ¬ pLt c b := by simpa using k
      have : ¬ pLt c a := fun z => by
        by_cases y : pLt a b
        · exact k' (pLt_trans z y)
        · have := pLt_tri h' y
          subst this
          exact k' z
      simpa using this
    · by_cases y : pLt b a
      · have : ¬ pLt a b := fun z => pLt_irr _ (pLt_trans y z)
        simp [this]
      · simp [y]
  · exact hp.imp fun {a b} h => by
      have : ¬ pLt b a := fun z => pLt_irr _ (pLt_trans h z)
      simp [this]
/-! the rising row of all pairs that stand so -/
def dueOf (R : Str → Str → Bool) (hs : List Str) : List (Str × Str) := hs.flatMap fun a => (hs.filter (R a)).map fun b => (a, b)
theorem dueOf_mem {R : Str → Str → Bool} {hs : List Str} {p : Str × Str} : p ∈ dueOf R hs ↔ p.1 ∈ hs ∧ p.2 ∈ hs ∧ R p.1 p.2 = true := by
  unfold dueOf
  rw [List.mem_flatMap]
  constructor
  · rintro ⟨a, ha, hp⟩
    obtain ⟨b, hb, rfl⟩ := List.mem_map.mp hp
    obtain ⟨h1, h2⟩ := List.mem_filter.mp hb
    exact ⟨ha, h1, h2⟩
  · rintro ⟨h1, h2, h3⟩
    exact ⟨p.1, h1, List.mem_map.mpr ⟨p.2, List.mem_filter.mpr ⟨h2, h3⟩, rfl⟩⟩
theorem dueOf_rises {R : Str → Str → Bool} {hs : List Str} (h : hs.Pairwise sLt) : (dueOf R hs).Pairwise pLt := by
  unfold dueOf
  rw [List.pairwise_flatMap]
  refine ⟨fun a _ => ?_, h.imp fun {a b} hab x hx y hy => ?_⟩
  · rw [List.pairwise_map]
    exact (h.filter _).imp fun {b c} hbc => .inr ⟨rfl, hbc⟩
  · obtain ⟨x2, _, rfl⟩ := List.mem_map.mp hx
    obtain ⟨y2, _, rfl⟩ := List.mem_map.mp hy
    exact .inl hab
theorem dueOf_len {R : Str → Str → Bool} {hs : List Str} : (dueOf R hs).length ≤ hs.length * hs.length := by
  have : ∀ l : List Str, (l.flatMap fun a => (hs.filter (R a)).map fun b => (a, b)).length ≤ l.length * hs.length := by
    intro l
    induction l with
    | nil => exact Nat.zero_le _
    | cons a l ih =>
      rw [List.flatMap_cons, List.length_append, List.length_map, List.length_cons, Nat.succ_mul]
      have := List.length_filter_le (R a) hs
      omega
  exact this hs
/-- texts in order, each once, rise -/
theorem rises_of_sorted : ∀ {ys : List Str}, sortedS ys = true → ys.Nodup → ys.Pairwise sLt := by
  have ltb : ∀ x y : Str, ltCps x.cps.toList y.cps.toList = true ↔ sLt x y := fun x y => by
    rw [← lt_meets]
    exact decide_eq_true_iff
  have rise : ∀ (l : List Str) (p : Str), risingS p l = true → (p :: l).Nodup → (p :: l).Pairwise sLt := by
    intro l
    induction l with
    | nil => exact fun p _ _ => List.pairwise_singleton _ _
    | cons x l ih =>
      intro p h nd
      have h' : (!ltCps x.cps.toList p.cps.toList && risingS x l) = true := h
      rw [Bool.and_eq_true] at h'
      have nd' := List.nodup_cons.mp nd
      have q := ih x h'.2 nd'.2
      have px : sLt p x := by
        by_cases z : sLt p x
        · exact z
        · refine absurd (sLt_tri z fun y => ?_) fun e => nd'.1 (e ▸ List.mem_cons_self ..)
          have := (ltb x p).mpr y
          rw [this] at h'
          exact Bool.noConfusion h'.1
      refine List.pairwise_cons.mpr ⟨fun y hy => ?_, q⟩
      rcases List.mem_cons.mp hy with e | hy
      · rw [e]; exact px
      · exact sLt_trans px ((List.pairwise_cons.mp q).1 y hy)
  intro ys h nd
  cases ys with
  | nil => exact List.Pairwise.nil
  | cons x l => exact rise l x h nd
end Ah
set_option Elab.async false
set_option linter.all false
set_option maxRecDepth 100000
namespace Ah
open PySem PySem.Spec PyProof.Rows L2
/-- what all hands were gone through for, sorted: just the rising row of what follows -/
theorem closed_due {R : Str → Str → Bool} {hs folk : List Str} {ps held : List (Str × Str)} (hr : ∀ x y, R x y = true ↔ Lead ps x y) (s : ∀ x y, (x, y) ∈ ps → x ∈ hs ∧ y ∈ hs) (pf : folk.Perm hs) (srt : hs.Pairwise sLt) (nd : held.Nodup) (e : ∀ a c, (a, c) ∈ held ↔ vias (fun x y => (x, y) ∈ ps) folk a c) :
    sortD (held.map prD) = (dueOf R hs).map prD := by
  refine sort_due nd (fun p => ?_) (dueOf_rises srt)
  have q : (p.1, p.2) ∈ held ↔ Lead ps p.1 p.2 := (e p.1 p.2).trans (vias_all fun x y z => ⟨pf.mem_iff.mpr (s x y z).1, pf.mem_iff.mpr (s x y z).2⟩)
  rw [dueOf_mem, hr]
  exact q.trans ⟨fun h => ⟨(h.left s).1, (h.left s).2, h⟩, fun h => h.2.2⟩
/-- one hand gone through: the pairs that it brings -/
theorem via_keys {R : Str → Str → Prop} {b : Str} {kl kl' : List (Str × Str)} (e : ∀ a c, (a, c) ∈ kl ↔ R a c) (h : ∀ a c, (a, c) ∈ kl' ↔ (a, c) ∈ kl ∨ ((a, b) ∈ kl ∧ (b, c) ∈ kl)) : ∀ a c, (a, c) ∈ kl' ↔ via R b a c := fun a c => by
  rw [h, e, e, e]
  exact Iff.rfl
/-- the row of what follows holds all that follows of it -/
theorem due_thru {R : Str → Str → Bool} {hs : List Str} {ps : List (Str × Str)} (hr : ∀ x y, R x y = true ↔ Lead ps x y) : ∀ x y z, (x, y) ∈ dueOf R hs → (y, z) ∈ dueOf R hs → (x, z) ∈ dueOf R hs := fun x y z h k => by
  obtain ⟨h1, h2, h3⟩ := dueOf_mem.mp h
  obtain ⟨k1, k2, k3⟩ := dueOf_mem.mp k
  exact dueOf_mem.mpr ⟨h1, k2, (hr _ _).mpr (((hr _ _).mp h3).trans ((hr _ _).mp k3))⟩
/-- closed again it is the same: what follows of the due row is the due row -/
theorem due_again {R : Str → Str → Bool} {hs : List Str} {ps qs : List (Str × Str)} (hr : ∀ x y, R x y = true ↔ Lead ps x y) (s : ∀ x y, (x, y) ∈ ps → x ∈ hs ∧ y ∈ hs) (e : ∀ p, p ∈ qs ↔ p ∈ dueOf R hs) {x y : Str} : Lead qs x y ↔ Lead ps x y := by
  rw [Lead.congr e, Lead.closed (due_thru hr), dueOf_mem, hr]
  exact ⟨fun h => h.2.2, fun h => ⟨(h.left s).1, (h.left s).2, h⟩⟩
/-- no pair of one hand follows where a row keeps all pairs -/
theorem due_irr {R : Str → Str → Bool} {hs row : List Str} {ps : List (Str × Str)} (hr : ∀ x y, R x y = true ↔ Lead ps x y) (k : KeepR row ps) {x y : Str} (h : (x, y) ∈ dueOf R hs) : x ≠ y := fun e => by
  subst e
  exact k.irr ((hr _ _).mp (dueOf_mem.mp h).2.2)
end Ah
set_option Elab.async false
set_option linter.all false
set_option maxRecDepth 100000
namespace Ah
section
variable {α : Type} [BEq α] [LawfulBEq α]
theorem peel_eq_of_len {ps : List (α × α)} {l : List α} (h : (peel ps l).length = l.length) : peel ps l = l := (List.filter_sublist).eq_of_length h
theorem peels_or (ps : List (α × α)) (l : List α) : ∀ n, (Nat.repeat (peel ps) n l).length + n ≤ l.length ∨ peel ps (Nat.repeat (peel ps) n l) = Nat.repeat (peel ps) n l
  | 0 => .inl (Nat.le_refl _)
  | n + 1 => by
    show (peel ps (Nat.repeat (peel ps) n l)).length + (n + 1) ≤ l.length ∨ peel ps (peel ps (Nat.repeat (peel ps) n l)) = peel ps (Nat.repeat (peel ps) n l)
    rcases peels_or ps l n with h | h
    · have le : (peel ps (Nat.repeat (peel ps) n l)).length ≤ (Nat.repeat (peel ps) n l).length := List.length_filter_le _ _
      by_cases e : (peel ps (Nat.repeat (peel ps) n l)).length = (Nat.repeat (peel ps) n l).length
      · have q := peel_eq_of_len e
        right
        rw [q, q]
      · left
        omega
    · right
      rw [h, h]
/-- gone through as often as there are hands: nothing more is taken off -/
theorem peels_stand (ps : List (α × α)) (l : List α) : peel ps (Nat.repeat (peel ps) l.length l) = Nat.repeat (peel ps) l.length l := by
  rcases peels_or ps l l.length with h | h
  · have : Nat.repeat (peel ps) l.length l = [] := List.eq_nil_of_length_eq_zero (by omega)
    rw [this]
    rfl
  · exact h
theorem ahead_some {ps : List (α × α)} {l : List α} (h : peel ps l = l) {b : α} (hb : b ∈ l) : aheadOf ps l b ≠ [] := by
  rw [← h] at hb
  have := (List.mem_filter.mp hb).2
  intro e
  rw [e] at this
  cases this
theorem ahead_mem {ps : List (α × α)} {l : List α} {a b : α} (h : a ∈ aheadOf ps l b) : a ∈ l ∧ (a, b) ∈ ps :=
  ⟨(List.mem_filter.mp h).1, List.contains_iff_mem.mp (List.mem_filter.mp h).2⟩
/-- all taken off: nowhere have all one ahead among themselves -/
theorem peels_none {ps : List (α × α)} {l : List α} {C : α → Prop} (sub : ∀ x, C x → x ∈ l) (pred : ∀ x, C x → ∃ y, C y ∧ (y, x) ∈ ps) : ∀ n x, C x → x ∈ Nat.repeat (peel ps) n l
  | 0 => sub
  | n + 1 => fun x hx => by
    obtain ⟨y, hy, m⟩ := pred x hx
    show x ∈ peel ps (Nat.repeat (peel ps) n l)
    refine List.mem_filter.mpr ⟨peels_none sub pred n x hx, ?_⟩
    have : y ∈ aheadOf ps (Nat.repeat (peel ps) n l) x := List.mem_filter.mpr ⟨peels_none sub pred n y hy, List.contains_iff_mem.mpr m⟩
    cases e : aheadOf ps (Nat.repeat (peel ps) n l) x with
    | nil => rw [e] at this; cases this
    | cons => rfl
theorem peels_irr {ps : List (α × α)} {l : List α} {n : Nat} (s : ∀ x y, (x, y) ∈ ps → x ∈ l ∧ y ∈ l) (e : Nat.repeat (peel ps) n l = []) (a : α) : ¬ Lead ps a a := fun h => by
  have := peels_none (C := fun x => Lead ps a x ∧ Lead ps x a) (fun x hx => (hx.1.left s).2) (fun x hx => by
    obtain ⟨h1, h2⟩ := hx
    cases h1 with
    | one m => exact ⟨a, ⟨h, h⟩, m⟩
    | step k m => exact ⟨_, ⟨k, (Lead.one m).trans h2⟩, m⟩) n a ⟨h, h⟩
  rw [e] at this
  cases this
/-! laying a row -/
structure Laid (ps : List (α × α)) (row : List α) : Prop where
  nd : row.Nodup
  keep : ∀ x y, (x, y) ∈ ps → y ∈ row → x ∈ row ∧ row.idxOf x < row.idxOf y
theorem Laid.nil {ps : List (α × α)} : Laid ps ([] : List α) := ⟨List.nodup_nil, fun _ _ _ h => by cases h⟩
theorem Laid.snoc {ps : List (α × α)} {row : List α} {f : α} (h : Laid ps row) (nf : f ∉ row) (pre : ∀ x, (x, f) ∈ ps → x ∈ row) : Laid ps (row ++ [f]) := by
  refine ⟨?_, fun x y m hy => ?_⟩
  · rw [List.nodup_append]
    exact ⟨h.nd, List.nodup_cons.mpr ⟨List.not_mem_nil, List.nodup_nil⟩, fun a ha b hb e => nf (by rw [← List.mem_singleton.mp hb, ← e]; exact ha)⟩
  · rcases List.mem_append.mp hy with hy | hy
    · obtain ⟨h1, h2⟩ := h.keep x y m hy
      refine ⟨List.mem_append_left _ h1, ?_⟩
      rw [List.idxOf_append, if_pos h1, List.idxOf_append, if_pos hy]
      exact h2
    · obtain rfl := List.mem_singleton.mp hy
      have h1 := pre x m
      refine ⟨List.mem_append_left _ h1, ?_⟩
      rw [List.idxOf_append, if_pos h1, List.idxOf_append, if_neg nf]
      exact Nat.lt_of_lt_of_le (List.idxOf_lt_length_of_mem h1) (Nat.le_add_left _ _)
/-- one can come next as long as there are others -/
theorem laid_next {ps : List (α × α)} {hs l row : List α} {n : Nat} (pl : hs.Perm l) (s : ∀ x y, (x, y) ∈ ps → x ∈ l ∧ y ∈ l) (e : Nat.repeat (peel ps) n l = []) (h : ∃ x ∈ hs, x ∉ row) : ∃ f ∈ hs, f ∉ row ∧ ∀ x, (x, f) ∈ ps → x ∈ row := by
  obtain ⟨x0, h0, n0⟩ := h
  by_cases q : ∃ f ∈ hs, f ∉ row ∧ ∀ x, (x, f) ∈ ps → x ∈ row
  · exact q
  · have := peels_none (ps := ps) (l := l) (C := fun x => x ∈ hs ∧ x ∉ row) (fun x hx => pl.mem_iff.mp hx.1) (fun x hx => by
      by_cases z : ∃ y, (y ∈ hs ∧ y ∉ row) ∧ (y, x) ∈ ps
      · exact z
      · refine absurd ⟨x, hx.1, hx.2, fun y m => ?_⟩ q
        by_cases w : y ∈ row
        · exact w
        · exact absurd ⟨y, ⟨pl.mem_iff.mpr (s y x m).1, w⟩, m⟩ z) n x0 ⟨h0, n0⟩
    rw [e] at this
    cases this
theorem Laid.keepR {ps : List (α × α)} {row : List α} (h : Laid ps row) (s : ∀ x y, (x, y) ∈ ps → y ∈ row) : KeepR row ps := fun x y m =>
  have q := h.keep x y m (s x y m)
  ⟨q.1, s x y m, q.2⟩
/-! going round -/
structure Walked (ps : List (α × α)) (left w : List α) : Prop where
  nd : w.Nodup
  sub : ∀ x ∈ w, x ∈ left
  chain : ∀ i a b, w[i]? = some a → w[i + 1]? = some b → (b, a) ∈ ps
theorem Walked.one {ps : List (α × α)} {left : List α} {a : α} (h : a ∈ left) : Walked ps left [a] :=
  ⟨List.nodup_cons.mpr ⟨List.not_mem_nil, List.nodup_nil⟩, fun x hx => by rw [List.mem_singleton.mp hx]; exact h, fun i a b _ h => by simp at h⟩
theorem Walked.snoc {ps : List (α × α)} {left w : List α} {l e : α} (h : Walked ps left w) (hl : w[w.length - 1]? = some l) (he : e ∈ left) (ne : e ∉ w) (m : (e, l) ∈ ps) : Walked ps left (w ++ [e]) := by
  have hlen : w.length - 1 < w.length := (List.getElem?_eq_some_iff.mp hl).1
  refine ⟨?_, fun x hx => ?_, fun i a b ha hb => ?_⟩
  · rw [List.nodup_append]
    exact ⟨h.nd, List.nodup_cons.mpr ⟨List.not_mem_nil, List.nodup_nil⟩, fun a ha b hb q => ne (by rw [← List.mem_singleton.mp hb, ← q]; exact ha)⟩
  · rcases List.mem_append.mp hx with hx | hx
    · exact h.sub x hx
    · rw [List.mem_singleton.mp hx]; exact he
  · by_cases q : i + 1 < w.length
    · rw [List.getElem?_append_left (by omega)] at ha
      rw [List.getElem?_append_left q] at hb
      exact h.chain i a b ha hb
    · have hb' := (List.getElem?_eq_some_iff.mp hb).1
      rw [List.length_append, List.length_singleton] at hb'
      have ei : i = w.length - 1 := by omega
      subst ei
      rw [List.getElem?_append_left hlen, hl] at ha
      rw [show w.length - 1 + 1 = w.length by omega, List.getElem?_append_right (Nat.le_refl _), Nat.sub_self] at hb
      cases ha
      cases hb
      exact m
structure Circ (ps : List (α × α)) (cs : List α) : Prop where
  two : 2 ≤ cs.length
  nd : cs.Nodup
  next : ∀ k a b, cs[k]? = some a → cs[(k + 1) % cs.length]? = some b → (a, b) ∈ ps
theorem Walked.circ {ps : List (α × α)} {left w : List α} {l e : α} {j : Nat} (h : Walked ps left w) (hl : w[w.length - 1]? = some l) (m : (e, l) ∈ ps) (hj : w[j]? = some e) (irr : ∀ x, (x, x) ∉ ps) : Circ ps (w.drop j).reverse := by
  have hjl : j < w.length := (List.getElem?_eq_some_iff.mp hj).1
  have len : (w.drop j).reverse.length = w.length - j := by rw [List.length_reverse, List.length_drop]
  have at' : ∀ k, k < w.length - j → (w.drop j).reverse[k]? = w[w.length - 1 - k]? := fun k hk => by
    rw [List.getElem?_reverse (by rw [List.length_drop]; exact hk), List.length_drop, List.getElem?_drop]
    congr 1
    omega
  have two : 2 ≤ w.length - j := by
    by_cases q : j = w.length - 1
    · subst q
      rw [hl] at hj
      cases hj
      exact absurd m (irr _)
    · omega
  refine ⟨by rw [len]; exact two, (List.reverse_perm _).nodup_iff.mpr (h.nd.sublist (List.drop_sublist _ _)), fun k a b ha hb => ?_⟩
  have hk : k < w.length - j := by
    have := (List.getElem?_eq_some_iff.mp ha).1
    rwa [len] at this
  rw [len] at hb
  rw [at' k hk] at ha
  by_cases q : k + 1 < w.length - j
  · rw [Nat.mod_eq_of_lt q, at' _ q] at hb
    refine h.chain (w.length - 1 - (k + 1)) b a hb ?_
    rw [← ha]
    congr 1
    omega
  · have ek : k + 1 = w.length - j := by omega
    rw [ek, Nat.mod_self, at' 0 (by omega)] at hb
    rw [show w.length - 1 - k = j by omega, hj] at ha
    rw [show w.length - 1 - 0 = w.length - 1 by omega, hl] at hb
    cases ha
    cases hb
    exact m
end
end Ah
set_option Elab.async false
set_option linter.all false
set_option maxRecDepth 100000
set_option maxHeartbeats 4000000
namespace Ah
open PySem PySem.Spec PyProof.Rows L2
/-! ### pairs of texts on the heap -/
def PrV (H : Hp) (v : V) (p : Str × Str) : Prop := ∃ T : Addr, v = .ref T ∧ H T = some (.tup [.str p.1, .str p.2])
def PrsV (H : Hp) : List V → List (Str × Str) → Prop
  | [], [] => True
  | v :: vs, p :: ps => PrV H v p ∧ PrsV H vs ps
  | _, _ => False
theorem PrV.same {H H' : Hp} {v : V} {p : Str × Str} (k : Same H H') (h : PrV H v p) : PrV H' v p := by
  obtain ⟨T, e, h⟩ := h
  exact ⟨T, e, k _ _ h⟩
theorem PrV.kp {p0 : Addr} {H H' : Hp} (k : Kp p0 H H') {kvs : List (Key × V)} (hp : H p0 = some (.dK kvs)) {v : V} {p : Str × Str} (h : PrV H v p) : PrV H' v p := by
  obtain ⟨T, e, h⟩ := h
  refine ⟨T, e, k _ _ (fun z => ?_) h⟩
  rw [z, hp] at h
  cases h
theorem PrV.mut {H : Hp} {D : Addr} {a b : List V} (hD : H D = some (.lst a)) {v : V} {p : Str × Str} (h : PrV H v p) : PrV (upd H D (.lst b)) v p := by
  obtain ⟨T, e, h⟩ := h
  refine ⟨T, e, (upd_ne fun z => ?_).trans h⟩
  rw [z, hD] at h
  cases h
theorem PrsV.imp {H H' : Hp} (f : ∀ v p, PrV H v p → PrV H' v p) : ∀ {vs : List V} {ps : List (Str × Str)}, PrsV H vs ps → PrsV H' vs ps
  | [], [], _ => trivial
  | v :: vs, p :: ps, ⟨h, t⟩ => ⟨f v p h, PrsV.imp f t⟩
  | [], _ :: _, h => h.elim
  | _ :: _, [], h => h.elim
theorem PrsV.same {H H' : Hp} {vs : List V} {ps : List (Str × Str)} (k : Same H H') (h : PrsV H vs ps) : PrsV H' vs ps := h.imp fun _ _ => PrV.same k
theorem PrsV.kp {p0 : Addr} {H H' : Hp} (k : Kp p0 H H') {kvs : List (Key × V)} (hp : H p0 = some (.dK kvs)) {vs : List V} {ps : List (Str × Str)} (h : PrsV H vs ps) : PrsV H' vs ps := h.imp fun _ _ => PrV.kp k hp
theorem PrsV.mut {H : Hp} {D : Addr} {a b : List V} (hD : H D = some (.lst a)) {vs : List V} {ps : List (Str × Str)} (h : PrsV H vs ps) : PrsV (upd H D (.lst b)) vs ps := h.imp fun _ _ => PrV.mut hD
theorem PrsV.len {H : Hp} : ∀ {vs : List V} {ps : List (Str × Str)}, PrsV H vs ps → vs.length = ps.length
  | [], [], _ => rfl
  | _ :: _, _ :: _, ⟨_, t⟩ => by rw [List.length_cons, List.length_cons, t.len]
  | [], _ :: _, h => h.elim
  | _ :: _, [], h => h.elim
theorem PrsV.append {H : Hp} : ∀ {vs ws : List V} {ps qs : List (Str × Str)}, PrsV H vs ps → PrsV H ws qs → PrsV H (vs ++ ws) (ps ++ qs)
  | [], _, [], _, _, k => k
  | _ :: _, _, _ :: _, _, ⟨h, t⟩, k => ⟨h, t.append k⟩
  | [], _, _ :: _, _, h, _ => h.elim
  | _ :: _, _, [], _, h, _ => h.elim
theorem PrsV.get {H : Hp} : ∀ {vs : List V} {ps : List (Str × Str)} {i : Nat} {v : V}, PrsV H vs ps → vs[i]? = some v → ∃ p, ps[i]? = some p ∧ PrV H v p
  | [], [], _, _, _, e => by cases e
  | v :: vs, p :: ps, 0, _, ⟨h, _⟩, e => ⟨p, rfl, Option.some.inj e ▸ h⟩
  | v :: vs, p :: ps, i + 1, _, ⟨_, t⟩, e => by
    obtain ⟨q, e1, h1⟩ := t.get (i := i) e
    exact ⟨q, e1, h1⟩
  | [], _ :: _, _, _, h, _ => h.elim
  | _ :: _, [], _, _, h, _ => h.elim
theorem PrsV.perm {H : Hp} {vs ws : List V} (pm : ws.Perm vs) : ∀ {ps : List (Str × Str)}, PrsV H vs ps → ∃ qs : List (Str × Str), qs.Perm ps ∧ PrsV H ws qs := by
  induction pm with
  | nil =>
    intro ps h
    exact ⟨ps, .refl _, h⟩
  | cons x _ ih =>
    intro ps h
    match ps, h with
    | p :: ps, ⟨h, t⟩ =>
      obtain ⟨qs, p1, h1⟩ := ih t
      exact ⟨p :: qs, p1.cons p, h, h1⟩
  | swap x y l =>
    intro ps h
    match ps, h with
    | p :: q :: ps, ⟨h1, h2, t⟩ => exact ⟨q :: p :: ps, List.Perm.swap .., h2, h1, t⟩
  | trans _ _ ih1 ih2 =>
    intro ps h
    obtain ⟨qs, p1, h1⟩ := ih2 h
    obtain ⟨rs, p2, h2⟩ := ih1 h1
    exact ⟨rs, p2.trans p1, h2⟩
theorem PrsV.dp {K : PySem.W.Frag} {H : Hp} : ∀ {vs : List V} {ps : List (Str × Str)}, PrsV H vs ps → DpAll K H vs (ps.map prD)
  | [], [], _ => .nil
  | _ :: _, p :: _, ⟨⟨T, e, h⟩, t⟩ => by
    subst e
    exact .cons (.tup (.inl (.inl h)) (.cons (.str _) (.cons (.str _) .nil))) t.dp
  | [], _ :: _, h => h.elim
  | _ :: _, [], h => h.elim
theorem shp_pr {p : Str × Str} (h1 : PyData.strOk p.1 = true) (h2 : PyData.strOk p.2 = true) : Shp (prD p) := by
  refine ⟨?_, ?_⟩
  · simp [prD, PyData.canLay0, PyData.canLayAll0, h1, h2]
  · simp [prD, PyData.depth, PyData.depthAll]
end Ah
set_option Elab.async false
set_option linter.all false
set_option maxRecDepth 100000
set_option maxHeartbeats 4000000
namespace Ah
open PySem PySem.Spec PyProof.Rows L2
abbrev sListed : Stmt := topS 31
/-! a list or a tuple of what is drawn -/
theorem lk_kp {p a : Addr} {o : HO} {H H' : Hp} (k : Kp p H H') {kvs : List (Key × V)} (hp : H p = some (.dK kvs)) (hu : ∀ kvs, o ≠ .dK kvs) (h : H a = some o) : H' a = some o := by
  refine k a _ (fun e => ?_) h
  rw [e, hp] at h
  exact hu _ (Option.some.inj h).symm
section
variable {P : Program} {w : World} {K : PySem.W.Frag} {mg : Str → Option Value} {base : Heap}
theorem scListed : FnScope ["pen", "hands", "found"] ["pen", "hands"] (defScope sListed) := ⟨rfl, rfl, rfl, by decide +kernel, rfl, by decide +kernel, by decide +kernel⟩
def spListed : Sp := fun vs H Q _ => ∃ (p c a : Addr) (xs : List Str) (n : Nat), vs = [.ref p, .ref a] ∧ H a = some (.lst (xs.map V.str)) ∧ (∀ x ∈ xs, IsHand x) ∧ xs.length ≤ 60 ∧ PenAt H p c n ∧ n + 100 < 1000000 ∧
  ∀ (b : Addr) (ys : List Str) (H' : Hp), ys.Perm xs → LTu H' b (ys.map V.str) → PenAt H' p c (n + xs.length + 1) → Kp p H H' → Q (.ref b) H'
theorem ok_listed {f f1 f2 : Addr} {fd fd1 fd2 : FuncData} (F : Fun K "_law_listed" "_law_listed" sListed f fd) (B : Blt2 mg) (D : Df P w K mg base CX0 "_law_draw" 1 f1 fd1 ["pen", "many"] spDraw) (D2 : Df P w K mg base CX0 "_law_shuffled" 2 f2 fd2 ["pen", "some"] (spShuf K)) :
    FnOk P w K mg base CX0 3 f fd ["pen", "hands"] spListed := by
  refine F.ok scListed (fun vs H Q E h => ?_) (fun cdv A outer s H vs Q E hr h => ?_)
  · obtain ⟨p, c, a, xs, n, rfl, _⟩ := h
    rfl
  · obtain ⟨p, c, a, xs, n, rfl, ha, hh, hl, hp, hn, k⟩ := h
    have nd := scListed.nd
    have hr1 : Room 1 _ := hr.mono (by decide)
    refine ⟨_, pss_cons (ps_set (i := 2) nd rfl (.inl rfl) (pe_call D2.ok hr rfl D2.g D2.kp D2.b .nil pass0 (pa_cons (pv 0) (pa_cons (pv 1) pa_nil))))
      (pss_one (ps_ret (pe_ix ix_list (pe_lst (pa_cons (pv 2) (pa_cons (pe_callTy call_tuple_ofF (by rfl) B.tuple (by decide +kernel) (pa_cons (pv 2) pa_nil)) pa_nil))) (pe_call D.ok hr1 rfl D.g D.kp D.b .nil pass0 (pa_cons (pv 0) (pa_cons pe_int pa_nil))) (fun _ _ => rfl)))), ?_⟩
    refine ⟨_, rfl, _, rfl, p, c, a, xs.map V.str, xs.map PyData.str, n, rfl, .inl (SqL.of ha), dp_strs xs, fun d hd => ?_, ?_, hp, ?_, fun q zs H1 pz hq eq hp1 kp1 => ?_⟩
    · obtain ⟨y, z, rfl⟩ := List.mem_map.mp hd
      exact shp_str (hh y z).ok
    · rw [List.length_map]
      omega
    · rw [List.length_map]
      omega
    obtain ⟨ws, pw, rfl⟩ := perm_map_inv pz rfl
    rw [List.length_map] at hp1
    refine ⟨_, rfl, _, rfl, q, ws.map V.str, rfl, SqL.of eq, newF fun b H2 s2 f2 => ?_⟩
    refine ⟨by show 2 ≤ sizeLine; decide, fun L hL => ?_⟩
    have sL : Same H2 (upd H2 L (.lst [.ref q, .ref b])) := same_new hL
    obtain ⟨kvs, hk⟩ := hp1.dk
    have hp2 := (hp1.keep s2).keep sL
    refine ⟨_, rfl, p, c, 2, _, rfl, hp2, by omega, by decide, by decide, fun d H3 d0 d2 hp3 kp3 => ?_⟩
    obtain ⟨kvs3, hk3⟩ := hp2.dk
    have e3 : H3 L = some (.lst [.ref q, .ref b]) := lk_kp kp3 hk3 (fun _ z => by cases z) upd_same
    have q3 : H3 q = some (.lst (ws.map V.str)) := lk_kp kp3 hk3 (fun _ z => by cases z) (sL _ _ (s2 _ _ eq))
    have b3 : Ftp H3 b (ws.map V.str) := ftp_kp kp3 hk3 (f2.same sL)
    have kp4 : Kp p H H3 := (kp1.trans (Kp.same (s2.trans sL))).trans kp3
    obtain ⟨j, rfl⟩ : ∃ j : Nat, d = j := ⟨d.toNat, by omega⟩
    have hj : j = 0 ∨ j = 1 := by omega
    rcases hj with rfl | rfl
    · exact ⟨L, _, _, .ref q, rfl, rfl, SqL.of e3, atI_nat rfl, k q ws H3 pw (.inl q3) hp3 kp4⟩
    · exact ⟨L, _, _, .ref b, rfl, rfl, SqL.of e3, atI_nat rfl, k b ws H3 pw (.inr b3.rd) hp3 kp4⟩
end
end Ah
set_option Elab.async false
set_option linter.all false
set_option maxRecDepth 100000
set_option maxHeartbeats 4000000
namespace Ah
open PySem PySem.Spec PyProof.Rows L2
abbrev sPairsRow : Stmt := topS 32
theorem kp_none {p a : Addr} {H H' : Hp} (k : Kp p H H') {o : HO} (hp : H' p = some o) (h : H' a = none) : H a = none := by
  cases e : H a with
  | none => rfl
  | some x =>
    have := k a x (fun z => by rw [z, hp] at h; cases h) e
    rw [h] at this
    cases this
/-- pairs of which a row has the first ahead of the second -/
def PrsOf (xs : List Str) (ps : List (Str × Str)) : Prop := ∀ x y, (x, y) ∈ ps → ∃ i j : Nat, i < j ∧ xs[i]? = some x ∧ xs[j]? = some y
section
variable {P : Program} {w : World} {K : PySem.W.Frag} {mg : Str → Option Value} {base : Heap}
theorem scPairsRow : FnScope ["pen", "row", "part", "found", "k", "hand"] ["pen", "row"] (defScope sPairsRow) := ⟨rfl, rfl, rfl, by decide +kernel, rfl, by decide +kernel, by decide +kernel⟩
def spPairsRow : Sp := fun vs H Q _ => ∃ (p c r : Addr) (xs : List Str) (n : Nat), vs = [.ref p, .ref r] ∧ Rd H r (.tup (xs.map V.str)) ∧ xs.length ≤ 8 ∧ PenAt H p c n ∧ n + 200 < 1000000 ∧
  ∀ (b : Addr) (us : List V) (ps : List (Str × Str)) (H' : Hp), H' b = some (.lst us) → PrsV H' us ps → PrsOf xs ps → ps.length ≤ 7 * xs.length → PenAt H' p c (n + 100) → Kp p H H' → Q (.ref b) H'
theorem ok_pairsRow {f f1 f2 : Addr} {fd fd1 fd2 : FuncData} (F : Fun K "_law_pairs_of_row" "_law_pairs_of_row" sPairsRow f fd) (B : Blt2 mg) (D : Df P w K mg base CX0 "_law_draw" 1 f1 fd1 ["pen", "many"] spDraw) (D2 : Df P w K mg base CX0 "_law_pick" 2 f2 fd2 ["pen", "some"] (spPick K)) :
    FnOk P w K mg base CX0 3 f fd ["pen", "row"] spPairsRow := by
  refine F.ok scPairsRow (fun vs H Q E h => ?_) (fun cdv A outer s H vs Q E hr h => ?_)
  · obtain ⟨p, c, r, xs, n, rfl, _⟩ := h
    rfl
  · obtain ⟨p, c, r, xs, n, rfl, hx, hl, hp, hn, k⟩ := h
    have nd := scPairsRow.nd
    have hr1 : Room 1 _ := hr.mono (by decide)
    refine ⟨_, pss_cons (ps_asg (pe_tup (pa_cons (pe_call D2.ok hr rfl D2.g D2.kp D2.b .nil pass0 (pa_cons (pv 0) (pa_cons (pe_lst (pa_cons pe_int (pa_cons pe_int (pa_cons pe_int (pa_cons pe_int (pa_cons pe_int pa_nil)))))) pa_nil))) (pa_cons (pe_lst pa_nil) pa_nil)))
        (pg_tup rfl (pgs_cons (pg_name (i := 2) nd rfl (.inr rfl)) (pgs_cons (pg_name (i := 3) nd rfl (.inl rfl)) pgs_nil))))
      (pss_cons (ps_for PassesOwn.never rfl (pi_range1 rfl B.range (pa_cons (pe_callB call_len_seq (by rfl) B.len PySem.boot_len (pa_cons (pv 1) pa_nil)) pa_nil)) (pg_name (i := 4) nd rfl (.inr rfl))
        (pss_one (ps_expr (pe_bm PySem.F.plainAttrs_list PySem.F.slot_list_extend PySem.F.type_list_extend mt_extend (pv 3) (pa_cons (pe_lc (own := [("hand", 5)]) (g := gName 5) (tt := tTest (tOp rEq (tCall spDraw [] E0 (tCons (tVar 0) (tCons (tVar 2) tNil))) (tC (.int 0)))) rfl nd (pi_tup (pe_slice sl_tupA (pv 1) (po_some (pe_op op_add (pv 4) pe_int)) po_none))
          (blkOk_by (N := ["pen", "row", "part", "found", "k", "hand"]) (sc := defScope sPairsRow) (by decide +kernel)) (fun _ _ _ _ _ => pg_name (i := 5) nd rfl (Or.inl rfl))
          (fun _ _ _ _ _ => pts_one (pt_cmpR op_eq (pe_call D.ok hr1 rfl D.g D.kp D.b .nil pass0 (pa_cons (pv 0) (pa_cons (pv 2) pa_nil))) pe_int (nomark _)))
          (fun _ _ _ _ _ => pe_tup (pa_cons (pe_ix (r := rIxT K) ix_tup (pv 1) (pv 4) (fun _ _ => rfl)) (pa_cons (pv 5) pa_nil)))) pa_nil)))))
      (pss_one (ps_ret (pv 3)))), ?_⟩
    have lm : (xs.map V.str).length = xs.length := List.length_map ..
    obtain ⟨kvs, hk⟩ := hp.dk
    refine ⟨_, rfl, by show 5 ≤ sizeLine; decide, fun A0 hA0 => ?_⟩
    have sA : Same H (upd H A0 (.lst ([1, 2, 3, 6, 20].map V.int))) := same_new hA0
    refine ⟨p, c, .ref A0, [1, 2, 3, 6, 20].map V.int, n, rfl, .inl ⟨A0, rfl, SqL.of upd_same⟩, hp.keep sA, by omega, by decide, by decide, fun i y H1 hy hp1 kp1 => ?_⟩
    obtain ⟨m, rfl, m0, m1⟩ : ∃ m : Int, y = V.int m ∧ 0 < m ∧ m < 100 := by
      have := List.mem_of_getElem? hy
      simp only [List.map_cons, List.map_nil, List.mem_cons, List.not_mem_nil, or_false] at this
      rcases this with e | e | e | e | e <;> exact ⟨_, e, by decide, by decide⟩
    have kpA : Kp p H H1 := (Kp.same sA).trans kp1
    refine ⟨Nat.zero_le _, fun L hL => ?_⟩
    have sL : Same H1 (upd H1 L (.lst [])) := same_new hL
    obtain ⟨kvs1, hk1⟩ := hp1.dk
    have hL0 : H L = none := kp_none kpA hk1 hL
    have e1 : (upd H1 L (.lst [])) L = some (.lst []) := upd_same
    have hp2 := hp1.keep sL
    have kp2 := kpA.trans (Kp.same sL)
    generalize upd H1 L (.lst []) = H2 at e1 hp2 kp2 ⊢
    refine ⟨by show 2 ≤ sizeLine; decide, fun T hT => ?_⟩
    have sT : Same H2 (upd H2 T (.tup [.int m, .ref L])) := same_new hT
    refine ⟨T, _, rfl, .inl (.inl upd_same), rfl, _, _, rfl, ?_⟩
    refine ⟨_, _, rfl, rfl, ?_⟩
    have e3 := sT _ _ e1
    have hp3 := hp2.keep sT
    have kp3 := kp2.trans (Kp.same sT)
    generalize upd H2 T (.tup [.int m, .ref L]) = H3 at e3 hp3 kp3 ⊢
    refine ⟨_, rfl, r, xs.map V.str, rfl, .inr (.inl (rd_kp kp3 hk (fun _ z => by cases z) hx)), _, rfl, by omega, by omega, ?_⟩
    rw [Int.toNat_natCast, lm]
    refine for_range (lo := 0) (n := xs.length) (fun i σ H4 => ∃ (o4 : Option V) (us : List V) (ps : List (Str × Str)), σ = [some (.ref p), some (.ref r), some (.int m), some (.ref L), o4, none] ∧ H4 L = some (.lst us) ∧ PrsV H4 us ps ∧ PrsOf xs ps ∧ ps.length ≤ 7 * i ∧ PenAt H4 p c (n + 1 + 8 * i) ∧ Kp p H H4) ⟨none, [], [], rfl, e3, trivial, (fun _ _ z => by cases z), Nat.zero_le _, hp3, kp3⟩ ?_ ?_
    · rintro i σ H4 hi ⟨o4, us, ps, rfl, e4, r4, o, l4, hp4, kp4⟩
      have e0 : (0 : Int) + (i : Int) = ((i : Nat) : Int) := by omega
      have e1 : (0 : Int) + (i : Int) + 1 = ((i + 1 : Nat) : Int) := by omega
      have ha : xs[i]? = some (xs.getD i default) := getD_at hi
      have hx4 := rd_kp kp4 hk (fun _ z => by cases z) hx
      obtain ⟨kv4, hk4⟩ := hp4.dk
      refine ⟨_, rfl, .inl ⟨rfl, _, SqL.of e4⟩, _, rfl, _, rfl, _, _, rfl, rfl, _, rfl, ?_⟩
      dsimp only [tNoPart]
      refine slA hx4 fun b H5 s5 e5 => ?_
      rw [e1, cutV_from (by omega), ← List.map_drop] at e5
      have hp5 := hp4.keep s5
      have hk5 := s5 _ _ hk4
      refine ⟨b, rfl, ⟨_, .inl e5⟩, fun D0 hD0 => ?_⟩
      refine lc_tup (K := K) (a := b) (xs := (xs.drop (i + 1)).map V.str) (fun j H6 => ∃ (ws : List V) (qs : List (Str × Str)), H6 D0 = some (.lst ws) ∧ PrsV H6 ws qs ∧ (∀ x y, (x, y) ∈ qs → x = xs.getD i default ∧ ∃ m : Nat, i < m ∧ xs[m]? = some y) ∧ qs.length ≤ j ∧ PenAt H6 p c (n + 1 + 8 * i + j) ∧ Kp p H5 H6) ⟨[], [], upd_same, trivial, (fun _ _ z => by cases z), Nat.zero_le _, hp5.keep (same_new hD0), Kp.new hD0⟩ (fun j H6 _ q => let ⟨_, _, _, _, _, _, _, kp6⟩ := q; .inl (rd_kp kp6 hk5 (fun _ z => by cases z) e5)) ?_ ?_
      · rintro j x H6 hx6 ⟨ws, qs, e6, r6, o6, l6, hp6, kp6⟩
        obtain ⟨b', hb, rfl, _⟩ := str_at hx6
        have hjl := (List.getElem?_eq_some_iff.mp hb).1
        rw [List.length_drop] at hjl
        rw [List.getElem?_drop] at hb
        refine ⟨rfl, _, rfl, _, rfl, p, c, m, _, rfl, hp6, by omega, m0, by omega, fun d H7 d0 d1 hp7 kp7 => ?_⟩
        obtain ⟨kv6, hk6⟩ := hp6.dk
        have e7 := lk_kp kp7 hk6 (fun _ z => by cases z) e6
        have r7 := r6.kp kp7 hk6
        have kp57 := kp6.trans kp7
        refine ⟨rfl, _, rfl, ?_⟩
        refine ite2 (fun e8 => ?_) (fun e8 => ?_)
        · have hx7 := rd_kp kp57 hk5 (fun _ z => by cases z) (rd_same s5 hx4)
          refine ⟨_, rfl, _, rfl, r, xs.map V.str, _, .str (xs.getD i default), rfl, rfl, .inl hx7, (by rw [e0]; exact atI_nat (by rw [List.getElem?_map, ha]; rfl)), _, rfl, by show 2 ≤ sizeLine; decide, fun T7 hT7 => ?_⟩
          have s8 : Same H7 (upd H7 T7 (.tup [.str (xs.getD i default), .str b'])) := same_new hT7
          refine ⟨ws, s8 _ _ e7, small1000 (by have := r7.len; omega), ws ++ [.ref T7], qs ++ [(xs.getD i default, b')], upd_same, ?_, ?_, ?_, ?_, ?_⟩
          · exact ((r7.same s8).append (show PrsV _ [.ref T7] [(xs.getD i default, b')] from ⟨⟨T7, rfl, upd_same⟩, trivial⟩)).mut (s8 _ _ e7)
          · intro x y z
            rcases List.mem_append.mp z with z | z
            · exact o6 x y z
            · obtain ⟨rfl, rfl⟩ := Prod.mk.inj (List.mem_singleton.mp z)
              exact ⟨rfl, i + 1 + j, by omega, hb⟩
          · rw [List.length_append]
            exact Nat.succ_le_succ l6
          · exact hp5.mut hD0 (hp7.keep s8)
          · exact (kp57.trans (Kp.same s8)).mut hD0
        · exact ⟨ws, qs, e7, r7, o6, by omega, hp7, kp57⟩
      · rintro H6 ⟨ws, qs, e6, r6, o6, l6, hp6, kp6⟩
        rw [List.length_map, List.length_drop] at l6 hp6
        have e4' := lk_kp kp6 hk5 (fun _ z => by cases z) (s5 _ _ e4)
        have r4' := (r4.same s5).kp kp6 hk5
        have lr := r4.len
        have lq := r6.len
        refine ⟨L, D0, us, ws, rfl, rfl, e4', e6, Nat.le_of_lt (small1000 (by omega)), ?_⟩
        refine ⟨_, us ++ ws, ps ++ qs, rfl, upd_same, (r4'.append r6).mut e4', ?_, ?_, ?_, ?_⟩
        · intro x y z
          rcases List.mem_append.mp z with z | z
          · exact o x y z
          · obtain ⟨rfl, j, h1, h2⟩ := o6 x y z
            exact ⟨i, j, h1, ha, h2⟩
        · rw [List.length_append]
          omega
        · exact (hp.mut hL0 hp6).mono (by omega)
        · exact ((kp4.trans (Kp.same s5)).trans kp6).mut hL0
    · rintro σ H4 ⟨o4, us, ps, rfl, e4, r4, o, l4, hp4, kp4⟩
      exact ⟨_, rfl, k L us ps H4 e4 r4 o l4 (hp4.mono (by omega)) kp4⟩
end
end Ah
set_option Elab.async false
set_option linter.all false
set_option maxRecDepth 100000
set_option maxHeartbeats 4000000
namespace Ah
open PySem PySem.Spec PyProof.Rows L2
theorem shp_sh {p : Str × Str} (h : Shp (prD p)) : SeqAt.shaped (prD p) = true := shp_tup (by have := h.1; simpa [prD, PyData.canLay0] using this) (by have := h.2; simp only [prD, PyData.depth] at this; omega)
/-- x in xs, xs a list or a tuple of data -/
def rInDL (K : PySem.W.Frag) : R2 := fun x y H Q => ∃ d ds, Dp K H x d ∧ (Dp K H y (.list ds) ∨ Dp K H y (.tuple ds)) ∧ SeqAt.shaped d = true ∧ SeqAt.shaped (.list ds) = true ∧ SeqAt.shaped (.tuple ds) = true ∧ Q (.bl (ds.any fun z => PyData.eqv z d)) H
theorem op_inDL {X : Cx} (hu : X.A.units + 65 < cLine) : OpR X (compareOp .In) (rInDL X.K) := by
  intro pins s σ H x y v u Q I rx ry h
  obtain ⟨d, ds, hd, he, sd, sl, st, q⟩ := h
  obtain ⟨as, r1⟩ := Dp.reads I d x v hd rx
  rcases he with he | he
  · obtain ⟨bs, r2⟩ := Dp.reads I (.list ds) y u he ry
    exact SeqAt.in_list_reads r2 r1 (SeqAt.canLay_of_shaped sl) (SeqAt.canLay_of_shaped sd) (room_in_shaped sd hu) ⟨.bl _, H, I, rfl, q⟩
  · obtain ⟨bs, r2⟩ := Dp.reads I (.tuple ds) y u he ry
    exact SeqAt.in_tuple_reads r2 r1 (SeqAt.canLay_of_shaped st) (SeqAt.canLay_of_shaped sd) (room_in_shaped sd hu) ⟨.bl _, H, I, rfl, q⟩
theorem eqv_pr (p q : Str × Str) : PyData.eqv (prD p) (prD q) = decide (p = q) := by
  have e : PyData.eqv (prD p) (prD q) = (PyData.eqv (.str p.1) (.str q.1) && (PyData.eqv (.str p.2) (.str q.2) && true)) := by
    simp only [prD, PyData.eqv, PyData.eqvAll]
  rw [e, eqv_str, eqv_str, Bool.and_true]
  by_cases h : p = q
  · rw [decide_eq_true h, decide_eq_true (congrArg Prod.fst h), decide_eq_true (congrArg Prod.snd h)]
    rfl
  · rw [decide_eq_false h]
    by_cases h1 : p.1 = q.1
    · rw [decide_eq_true h1, decide_eq_false fun h2 => h (Prod.ext h1 h2)]
      rfl
    · rw [decide_eq_false h1]
      rfl
theorem any_pr (ps : List (Str × Str)) (q : Str × Str) : ((ps.map prD).any fun z => PyData.eqv z (prD q)) = ps.contains q := by
  rw [List.any_map]
  have : ((fun z => PyData.eqv z (prD q)) ∘ prD) = fun p => decide (p = q) := funext fun p => eqv_pr p q
  rw [this]
  rw [Bool.eq_iff_iff, List.any_eq_true, List.contains_iff_mem]
  exact ⟨fun ⟨p, h1, h2⟩ => of_decide_eq_true h2 ▸ h1, fun h => ⟨q, h, decide_eq_true rfl⟩⟩
section
variable {P : Program} {w : World} {K : PySem.W.Frag} {mg : Str → Option Value} {base : Heap}
def PrsOk (ps : List (Str × Str)) : Prop := ∀ x ∈ ps, PyData.strOk x.1 = true ∧ PyData.strOk x.2 = true
theorem LTu.dp {H : Hp} {b : Addr} {us : List V} {ps : List (Str × Str)} (h : LTu H b us) (r : PrsV H us ps) : Dp K H (.ref b) (.list (ps.map prD)) ∨ Dp K H (.ref b) (.tuple (ps.map prD)) := by
  rcases h with h | h
  · exact .inl (.lst (SqL.of h) r.dp)
  · exact .inr (.tup (.inl h) r.dp)
end
end Ah
set_option Elab.async false
set_option linter.all false
set_option maxRecDepth 100000
set_option maxHeartbeats 4000000
namespace Ah
open PySem PySem.Spec PyProof.Rows L2
abbrev sIsPair : Stmt := topS 12
theorem inV_txts (x : Str) (xs : List Str) : inV (.str x) (xs.map V.str) = decide (x ∈ xs) := by
  unfold inV
  induction xs with
  | nil => rfl
  | cons y r ih =>
    rw [List.map_cons, List.any_cons, ih]
    by_cases h : y = x
    · subst h
      have : eqV (V.str y) (V.str y) = true := by simp [eqV]
      rw [this]
      simp
    · have : eqV (V.str y) (V.str x) = false := by simp [eqV, h]
      rw [this, Bool.false_or]
      have h' : ¬ x = y := fun e => h e.symm
      simp [List.mem_cons, h']
section
variable {P : Program} {w : World} {K : PySem.W.Frag} {mg : Str → Option Value} {base : Heap}
theorem scIsPair : FnScope ["hands", "thing", "a", "b"] ["hands", "thing"] (defScope sIsPair) := ⟨rfl, rfl, rfl, by decide +kernel, rfl, by decide +kernel, by decide +kernel⟩
/-- of a pair of texts -/
def spIsPair : Sp := fun vs H Q _ => ∃ (g : Addr) (v : V) (hs : List Str) (q : Str × Str), vs = [.ref g, v] ∧ LTu H g (hs.map V.str) ∧ PrV H v q ∧ Q (.bl (decide (q.1 ∈ hs ∧ q.2 ∈ hs ∧ q.1 ≠ q.2))) H
theorem ok_isPair {f : Addr} {fd : FuncData} (F : Fun K "is_pair" "is_pair" sIsPair f fd) (B : Blt2 mg) : FnOk P w K mg base CX0 1 f fd ["hands", "thing"] spIsPair := by
  refine F.ok scIsPair (fun vs H Q E h => ?_) (fun cdv A outer s H vs Q E hr h => ?_)
  · obtain ⟨g, v, hs, q, rfl, _⟩ := h
    rfl
  · obtain ⟨g, v, hs, q, rfl, hg, ⟨T, rfl, hT⟩, k⟩ := h
    have nd := scIsPair.nd
    refine ⟨_, pss_cons (ps_if (PW.pt (pw_or (pt_not (pt_val (pe_callB call_isi (by rfl) B.isinstance (by decide +kernel) (pa_cons (pv 1) (pa_cons (pe_bltn (v := .ty "tuple") (by rfl) B.tuple (by decide +kernel) rfl) pa_nil)))))
          (pw_or1 (pt_cmpR op_ne (pe_callB call_len_seq (by rfl) B.len PySem.boot_len (pa_cons (pv 1) pa_nil)) pe_int (nomark _))))) (pss_one (ps_ret pe_bl)) pss_nil)
      (pss_cons (ps_asg (pv 1) (pg_tup rfl (pgs_cons (pg_name (i := 2) nd rfl (.inl rfl)) (pgs_cons (pg_name (i := 3) nd rfl (.inl rfl)) pgs_nil))))
      (pss_one (ps_ret (pe_and (pe_cmpR (r := rIn K false) op_in_seq (pv 2) (pv 0) (by rfl)) (pe_and (pe_cmpR (r := rIn K false) op_in_seq (pv 3) (pv 0) (by rfl)) (pe_one (pe_cmpR op_ne (pv 2) (pv 3) (nomark _)))))))), ?_⟩
    have hTr : Rd H T (.tup [.str q.1, .str q.2]) := .inl hT
    refine ⟨_, rfl, .ref T, .ty "tuple", _, _, true, rfl, .ty "tuple", ty_tup hTr, kit_ty (by decide +kernel), _, rfl, ?_⟩
    refine iteF ⟨_, rfl, T, _, rfl, .inr (.inl hTr), rfl, _, rfl, ?_⟩
    refine iteF ⟨_, rfl, T, _, rfl, .inl (.inl hT), rfl, _, _, rfl, ?_⟩
    refine ⟨_, _, rfl, rfl, ?_⟩
    refine ⟨_, rfl, _, rfl, g, _, rfl, hg.sq, rfl, flat_strs hs, _, rfl, ?_⟩
    rw [if_neg Bool.false_ne_true, inV_txts]
    have kF : ¬ (q.1 ∈ hs ∧ q.2 ∈ hs ∧ q.1 ≠ q.2) → Q (.bl false) H := fun z => by
      rw [decide_eq_false z] at k
      exact k
    by_cases h1 : q.1 ∈ hs
    · rw [decide_eq_true h1]
      refine iteT ⟨_, rfl, _, rfl, g, _, rfl, hg.sq, rfl, flat_strs hs, _, rfl, ?_⟩
      rw [if_neg Bool.false_ne_true, inV_txts]
      by_cases h2 : q.2 ∈ hs
      · rw [decide_eq_true h2]
        refine iteT ⟨_, rfl, _, rfl, rfl, ?_⟩
        by_cases h3 : q.1 = q.2
        · rw [decide_eq_true (congrArg V.str h3)]
          exact kF fun z => z.2.2 h3
        · rw [decide_eq_false fun z => h3 (V.str.inj z)]
          rw [decide_eq_true (show q.1 ∈ hs ∧ q.2 ∈ hs ∧ q.1 ≠ q.2 from ⟨h1, h2, h3⟩)] at k
          exact k
      · rw [decide_eq_false h2]
        exact iteF (kF fun z => h2 z.2.1)
    · rw [decide_eq_false h1]
      exact iteF (kF fun z => h1 z.1)
end
end Ah
set_option Elab.async false
set_option linter.all false
set_option maxRecDepth 100000
set_option maxHeartbeats 4000000
namespace Ah
open PySem PySem.Spec PyProof.Rows L2
open PySem.W (dataLt alike)
/-- x < y, alike data -/
def rLtD (K : PySem.W.Frag) : R2 := fun x y H Q => ∃ d e, Dp K H x d ∧ Dp K H y e ∧ alike d e = true ∧ d ≠ .none ∧ d.depth ≤ 60 ∧ Q (.bl (dataLt d e)) H
theorem op_ltD {X : Cx} (hu : X.A.units + 65 < cLine) : OpR X (compareOp .Lt) (rLtD X.K) := by
  intro pins s σ H x y v u Q I rx ry h
  obtain ⟨d, e, hd, he, al, nn, dp, q⟩ := h
  obtain ⟨as, r1⟩ := Dp.reads I d x v hd rx
  obtain ⟨bs, r2⟩ := Dp.reads I e y u he ry
  exact PySem.W.lt_data r1 r2 al nn (by omega) ⟨.bl _, H, I, rfl, q⟩
abbrev sRising : Stmt := topS 6
theorem pr_alike (p q : Str × Str) : alike (prD p) (prD q) = true := prs_alike [p, q] _ (by simp) _ (by simp)
section
variable {P : Program} {w : World} {K : PySem.W.Frag} {mg : Str → Option Value} {base : Heap}
theorem scRising : FnScope ["things", "k"] ["things"] (defScope sRising) := ⟨rfl, rfl, rfl, by decide +kernel, rfl, by decide +kernel, by decide +kernel⟩
/-- of a rising tuple of pairs -/
def spRising : Sp := fun vs H Q _ => ∃ (t : Addr) (us : List V) (ps : List (Str × Str)), vs = [.ref t] ∧ Rd H t (.tup us) ∧ PrsV H us ps ∧ ps.Pairwise pLt ∧ ps.length ≤ 900 ∧ ∀ H', Same H H' → Q (.bl true) H'
theorem ok_rising {f : Addr} {fd : FuncData} (F : Fun K "is_rising" "is_rising" sRising f fd) (B : Blt2 mg) : FnOk P w K mg base CX0 1 f fd ["things"] spRising := by
  refine F.ok scRising (fun vs H Q E h => ?_) (fun cdv A outer s H vs Q E hr h => ?_)
  · obtain ⟨t, us, ps, rfl, _⟩ := h
    rfl
  · obtain ⟨t, us, ps, rfl, ht, hps, hp, hl, k⟩ := h
    have nd := scRising.nd
    have hu65 : (A.deeper (envOfC "is_rising" (defScope sRising) s.heap.objs.size f cdv)).units + 65 < cLine := by
      have := hr.un
      omega
    refine ⟨_, pss_one (ps_ret (pe_callB (cr_all rfl) (by rfl) B.all (by decide +kernel) (pa_cons (pe_lc (own := [("k", 1)]) (g := gName 1) (tt := tYes) (te := tOp (rLtD K) (tOp (rIxT K) (tVar 0) (tOp (rI0 fun i j => .int (i - j)) (tVar 1) (tC (.int 1)))) (tOp (rIxT K) (tVar 0) (tVar 1))) rfl nd
        (pi_range2 rfl B.range (pa_cons pe_int (pa_cons (pe_callB call_len_seq (by rfl) B.len PySem.boot_len (pa_cons (pv 0) pa_nil)) pa_nil))) (blkOk_by (N := ["things", "k"]) (sc := defScope sRising) (by decide +kernel))
        (fun _ _ _ _ _ => pg_name (i := 1) nd rfl (Or.inl rfl)) (fun _ _ _ _ _ => pts_nil)
        (fun _ _ _ _ _ => pe_cmpR (op_ltD hu65) (pe_ix (r := rIxT K) ix_tup (pv 0) (pe_op op_sub (pv 1) pe_int) (fun _ _ => rfl)) (pe_ix (r := rIxT K) ix_tup (pv 0) (pv 1) (fun _ _ => rfl)) (nomark _))) pa_nil))), ?_⟩
    have lu := hps.len
    refine ⟨_, rfl, t, us, rfl, .inr (.inl ht), _, _, rfl, by omega, fun D0 hD0 => ?_⟩
    refine lc_range (lo := 1) (n := ((us.length : Int) - 1).toNat) (fun i H2 => Same H H2 ∧ H2 D0 = some (.lst ((List.replicate i true).map V.bl))) ⟨same_new hD0, upd_same⟩ ?_ ?_
    · rintro i H2 hi ⟨s2, e2⟩
      have g0 : us[i]? = some us[i] := List.getElem?_eq_getElem (by omega)
      have g1 : us[i + 1]? = some us[i + 1] := List.getElem?_eq_getElem (by omega)
      obtain ⟨x, hx, vx⟩ := hps.get g0
      obtain ⟨y, hy, vy⟩ := hps.get g1
      have lt : pLt x y := by
        obtain ⟨h0, rfl⟩ := List.getElem?_eq_some_iff.mp hx
        obtain ⟨h1, rfl⟩ := List.getElem?_eq_some_iff.mp hy
        exact List.pairwise_iff_getElem.mp hp i (i + 1) h0 h1 (by omega)
      have ht2 := rd_same s2 ht
      have dx : Dp K H2 us[i] (prD x) := by
        obtain ⟨T, e, hT⟩ := vx.same s2
        rw [e]
        exact .tup (.inl (.inl hT)) (.cons (.str _) (.cons (.str _) .nil))
      have dy : Dp K H2 us[i + 1] (prD y) := by
        obtain ⟨T, e, hT⟩ := vy.same s2
        rw [e]
        exact .tup (.inl (.inl hT)) (.cons (.str _) (.cons (.str _) .nil))
      have i0 : (1 : Int) + (i : Int) - 1 = ((i : Nat) : Int) := by omega
      have i1 : (1 : Int) + (i : Int) = ((i + 1 : Nat) : Int) := by omega
      refine ⟨rfl, _, rfl, _, rfl, _, _, rfl, rfl, t, us, _, _, rfl, rfl, .inl ht2, (by rw [i0]; exact atI_nat g0), _, rfl, _, rfl, t, us, _, _, rfl, rfl, .inl ht2, (by rw [i1]; exact atI_nat g1), prD x, prD y, dx, dy, pr_alike x y, (fun z => by cases z), ?_, ?_⟩
      · exact prs_depth [x] _ (by simp)
      · rw [dataLt_pr, decide_eq_true lt]
        refine ⟨_, e2, ?_, same_mut s2 hD0, ?_⟩
        · rw [List.length_map, List.length_replicate]
          exact small1000 (by omega)
        · rw [upd_same, List.replicate_succ', List.map_append]
          rfl
    · rintro H2 ⟨s2, e2⟩
      refine ⟨D0, _, rfl, SqL.of e2, ?_⟩
      rw [List.all_replicate]
      have := k H2 s2
      split
      · exact this
      · exact this
end
end Ah
set_option Elab.async false
set_option linter.all false
set_option maxRecDepth 100000
set_option maxHeartbeats 4000000
/-! sorted(d), d a dict whose keys are tuples -/
namespace Ah
open PySem PySem.Spec PyProof.Rows L2
open PySem.W (EachIs AllAlike Sortable dataLe)
def leafD : Key → PyData
  | .inl i => .int i
  | .inr x => .str x
def keyD (k : List Key) : PyData := .tuple (k.map leafD)
theorem dp_leafs {K : PySem.W.Frag} {H : Hp} : ∀ k : List Key, DpAll K H (k.map kV) (k.map leafD)
  | [] => .nil
  | .inl i :: r => .cons (.int i) (dp_leafs r)
  | .inr x :: r => .cons (.str x) (dp_leafs r)
theorem keys_dp {K : PySem.W.Frag} {H : Hp} : ∀ {kvs : List (List Key × V)} {bs : List Addr}, IsKeys H kvs bs → DpAll K H (bs.map V.ref) (kvs.map fun kv => keyD kv.1) := by
  intro kvs bs r
  unfold IsKeys at r
  induction r with
  | nil => exact .nil
  | cons h t ih => exact .cons (.tup (.inl (.inl h)) (dp_leafs _)) ih
def rSortedT (K : PySem.W.Frag) : List V → Hp → VK → Prop := fun vs H Q => ∃ (a : Addr) (kvs : List (List Key × V)), vs = [V.ref a] ∧ Rd H a (.dT kvs) ∧ AllAlike (kvs.map fun kv => keyD kv.1) ∧ Sortable (kvs.map fun kv => keyD kv.1) ∧ (∀ d ∈ kvs.map fun kv => keyD kv.1, d.depth ≤ 60) ∧ kvs.length ≤ 16777216 ∧
  ∀ (bs : List Addr) (zs : List (V × PyData)) (p : Addr), IsKeys H kvs bs → zs.Perm ((bs.map V.ref).zip (kvs.map fun kv => keyD kv.1)) → zs.map (·.2) = sortD (kvs.map fun kv => keyD kv.1) → H p = none → Q (.ref p) (upd H p (.lst (zs.map (·.1))))
section
variable {X : Cx}
theorem cr_sortedT (hc : X.calm = true) (hu : X.A.units + 64 < cLine) : CallR X (.builtin "sorted") (rSortedT X.K) := by
  intro pins s σ H vs us Q I r h
  obtain ⟨a, kvs, rfl, hd, hal, hk, hdep, hlen, q⟩ := h
  rw [Vals.ref1 r]
  obtain ⟨z, hs, ks, pr, o, es, ep, ho, hx, hdt, he, hn⟩ := (show ObjOk X.prog X.w H s.heap a (.dT kvs) from hd.ok I.hok)
  have l1 : es.size = ks.length := size_of_entries he
  have l2 : kvs.length = ks.length := Paired.length pr
  have fits : kvs.length ≤ sizeLine := by rw [sizeLine_eq]; exact hlen
  refine Calls.call_function_entry kind_sorted plain_sorted entry_sorted (args_sorted1 _) ?_
  unfold Builtin.«sorted»
  refine wpAny_bind (m := checkCount "sorted" 1 1 _) (wpAny_pure ?_)
  refine wpAny_bind (PySem.W.kdu_collect (A := X.A.in1) (kdl_raw hs hx hdt) (I.ok.hd hc) ho (by omega) fun h1 tk acc k1 it => ?_)
  have ea : acc.toList = ks.map fun x => Value.ref x.2.1 := by
    have lacc : acc.toList.length = ks.length := by rw [Array.length_toList, it.1]; exact l1
    refine List.ext_getElem? fun j => ?_
    rw [List.getElem?_map]
    cases hj : acc.toList[j]? with
    | none =>
      have m := List.getElem?_eq_none_iff.mp hj
      rw [List.getElem?_eq_none (by omega)]
      all_goals rfl
    | some v =>
      obtain ⟨en, hen, hv⟩ := it.2 j v (by rw [← Array.getElem?_toList]; exact hj)
      have qe := entry_at he j
      rw [hen] at qe
      cases hb : ks[j]? with
      | none =>
        rw [hb] at qe
        exact nomatch (show some en = none from qe)
      | some b =>
        rw [hb] at qe
        rw [hv, show en = entryOfKey (tupleKind (mixKind X.prog X.w)) b from Option.some.inj qe]
        all_goals rfl
  generalize acc.toList = vs at ea
  have lv : vs.length = kvs.length := by rw [ea, List.length_map, l2]
  have rv : Vals ((ks.map fun x => x.2.1).map V.ref) vs := by
    rw [ea, show (ks.map fun x => Value.ref x.2.1) = (ks.map fun x => x.2.1).map Value.ref by rw [List.map_map]; rfl]
    exact vals_refs _
  have isk := isKeys_of pr
  have dp := keys_dp (K := X.K) isk
  have q := fun zs p => q (ks.map fun x => x.2.1) zs p isk
  generalize hxs : (ks.map fun x => x.2.1).map V.ref = xs at rv dp q
  generalize kvs.map (fun kv => keyD kv.1) = ds at dp hal hk hdep q
  have lx : xs.length = kvs.length := by rw [← hxs, List.length_map, List.length_map, l2]
  obtain ⟨z1, z2, z3⟩ := dpAll_zip2 dp
  have lds : ds.length = xs.length := by
    have := congrArg List.length z2
    rw [List.length_map, z3] at this
    exact this
  have e := each_of rv dp
  refine wpAny_bind (wpAny_newList ?_ (by rw [lv]; exact fits))
  have hoL : (h1.push (seqObj "list" vs.toArray 0)).get? h1.objs.size = some (seqObj "list" vs.toArray 0) := Heap.get?_push_size _ rfl
  have old : ∀ b u, s.heap.get? b = some u → (PySem.W.sortingHeap (h1.push (seqObj "list" vs.toArray 0)) h1.objs.size vs).get? b = some u := fun b u hb =>
    PySem.W.sortingHeap_old (Nat.ne_of_lt (Heap.lt_size (k1 b u hb))) (Heap.get?_push_of_some _ (k1 b u hb))
  have er : EachIs (fun (v : Value) (b : V × PyData) => ∃ as, Reads (PySem.W.sortingHeap (h1.push (seqObj "list" vs.toArray 0)) h1.objs.size vs) v b.2 as) vs (xs.zip ds) := e.mono fun v b ⟨r1, r2⟩ =>
    let ⟨as, rr⟩ := Dp.reads I b.2 b.1 v r2 r1
    ⟨as, PyProof.Rows.Reads.keeps old rr⟩
  have bound : ∀ d, d ∈ ds → X.A.in1.in1.units + d.depth < cLine := fun d hd => by
    have h1 := hdep d hd
    have h2 : X.A.in1.in1.units = X.A.units + 2 := rfl
    omega
  have hal' : AllAlike ((xs.zip ds).map fun b => b.2) := by rw [z1]; exact hal
  have eds := PySem.W.each_map (R := fun v d => ∃ as, Reads (PySem.W.sortingHeap (h1.push (seqObj "list" vs.toArray 0)) h1.objs.size vs) v d as) (fun b : V × PyData => b.2) er
  rw [z1] at eds
  refine wpAny_bind (wpAny_holding (wpAny_call_entry slot_list_sort ⟨_, hoL, rfl⟩ entry_list_sort (PySem.W.list_sort_vals (κ := PySem.W.dataKind (PySem.W.sortingHeap (h1.push (seqObj "list" vs.toArray 0)) h1.objs.size vs) ds) hoL
    (PySem.W.SortsAt.data (s := { s with heap := PySem.W.sortingHeap (h1.push (seqObj "list" vs.toArray 0)) h1.objs.size vs, toks := tk }) eds hal hk bound) (by rw [lv]; exact fits) ⟨.none, rfl, ?_⟩) (args_list_sort _)))
  refine wpAny_pure ⟨_, rfl, ?_⟩
  have eo := PySem.W.sortVals_data (enc := fun b : V × PyData => b.2) (R := fun (v : Value) (b : V × PyData) => RelV b.1 v ∧ Dp X.K H b.1 b.2) false e er hal'
  rw [z1] at eo
  generalize PySem.W.sortVals (PySem.W.dataKind (PySem.W.sortingHeap (h1.push (seqObj "list" vs.toArray 0)) h1.objs.size vs) ds) false vs vs = out at eo ⊢
  obtain ⟨v1, v2⟩ := each_vals eo
  have pm : ((xs.zip ds).mergeSort (dataLe false fun b : V × PyData => b.2)).Perm (xs.zip ds) := List.mergeSort_perm _ _
  have p1 : (((xs.zip ds).mergeSort (dataLe false fun b : V × PyData => b.2)).map (·.1)).length = kvs.length := by
    rw [List.length_map, pm.length_eq, z3, lds, lx]
  have p2 : ((xs.zip ds).mergeSort (dataLe false fun b : V × PyData => b.2)).map (·.2) = sortD ds := by
    have := PySem.W.sort_maps (r := dataLe false fun b : V × PyData => b.2) (s := dataLe false fun d : PyData => d) (fun b : V × PyData => b.2) (l := xs.zip ds) (fun a _ b _ => rfl)
    rw [z1] at this
    exact this
  have I1 : Inv X pins σ H { s with heap := h1, toks := tk } := I.kept (t' := tk) k1
  obtain ⟨ep2, at2⟩ := sortedHeap_at (vs := vs) (out := out.toArray) hoL
  refine ⟨.ref _, upd H h1.objs.size (.lst _), I1.laid (t' := tk) (fun b u hb1 => ?_) (Nat.le_refl _) ⟨?_, out, ep2, v1, at2⟩, rfl, q _ _ pm p2 (I1.hok.fresh (Nat.le_refl _))⟩
  · have hlt := Heap.lt_size hb1
    show (sortedHeap (h1.push (seqObj "list" vs.toArray 0)) h1.objs.size vs out.toArray).get? b = some u
    rw [sortedHeap_old (Nat.ne_of_lt hlt) (by rw [size_push']; exact Nat.lt_succ_of_lt hlt)]
    exact Heap.get?_push_of_some _ hb1
  · rw [p1]
    exact fits
end
end Ah
set_option Elab.async false
set_option linter.all false
set_option maxRecDepth 100000
set_option maxHeartbeats 4000000
/-! dict comprehensions whose keys are tuples -/
namespace Ah
open PySem PySem.Spec PyProof.Rows L2
theorem d_dictSetT {X : Cx} {pins : List (Addr × Obj)} {σ : L2.St} {H : Hp} {s : Shared} {E : Value → Shared → Prop} {D b : Addr} {kvs : List (List Key × V)} {k : List Key} {v : V} {r : Value} {Q : Unit → Shared → Prop} (hu : X.A.units < cLine) (I : Inv X pins σ H s) (eb : H b = some (.tup (k.map kV))) (e : H D = some (.dT kvs)) (l : kvs.length < sizeLine)
    (rv : RelV v r) (h : ∀ s', Inv X pins σ (upd H D (.dT (putK kvs k v))) s' → Q () s') : wpAny (model X.prog X.w) X.A (dictSet D (.ref b) r) Q E s := by
  obtain ⟨z, hd, xs, rel, dd⟩ := dt_of I.hok e
  have few : xs.length ≤ sizeLine := by rw [← Paired.length rel]; exact z
  have more : (putK kvs k v).length ≤ sizeLine := by have := length_putK kvs k v; omega
  refine wpAny_dictSet_heap (hsz := few) hu (key_of I.hok eb) dd fun h' dd' hs => h _ ?_
  obtain ⟨q, es, ep, hq, h2, h3, h4, _, h5⟩ := dd'
  refine d_write I (by rw [e]; exact True.intro) hs ⟨q, hq⟩ ⟨more, hd, _, (rel.put k eb rv).keeps fun c ys ec => ?_, q, es, ep, hq, h2, h3, h4, h5⟩
  exact (upd_ne (ne_of ec e fun z => nomatch z)).trans ec
section
variable {X : Cx}
def tDcT (wit : TI) (gt : TG) (tst : TT) (tke tva : TE) (nums : List Nat) : TE := fun σ H Q => wit σ H fun J H1 => ∀ D, H1 D = none → ∃ Wt : Nat → Nat → Hp → Prop, (∃ m, Wt 0 m (upd H1 D (.dT []))) ∧ ∀ i m H, Wt i m H →
  (J.stop i H ∧ Q (.ref D) H) ∨ (J.go i H ∧ ∃ Next : Hp → Prop, (∀ H', Next H' → ∃ m', m' < m ∧ Wt (i + 1) m' H') ∧ ∀ x H', J.yld i H x H' → gt x (wipe σ nums) H' fun σ2 Hp2 => wipe σ2 nums = wipe σ nums ∧ tst σ2 Hp2 fun b Hp3 =>
    if b = true then tke σ2 Hp3 fun y H4 => tva σ2 H4 fun z Hp5 => ∃ (kvs : List (List Key × V)) (k : List Key) (b : Addr), y = .ref b ∧ Hp5 b = some (.tup (k.map kV)) ∧ Hp5 D = some (.dT kvs) ∧ kvs.length < sizeLine ∧ Next (upd Hp5 D (.dT (putK kvs k z))) else Next Hp3)
theorem dcT_core {pins : List (Addr × Obj)} {s : Shared} {σ : L2.St} {H : Hp} {Q : VK} {ke ve tgt itr : Expr} {tests : List Expr} {scp : Scope} {mine : List (Str × Nat)} {ps0 ps1 : Pos} {wit : TI} {gt : TG} {tst : TT} {tke tva : TE} {use : Option (Value → Sem Unit)} {Qf : Value → Shared → Prop}
    (cal : X.calm = true) (hu : X.A.units < cLine) (ndn : X.N.Nodup) (I : Inv X pins σ H s) (pit : PI X tgt itr wit) (blo : BlkOk X.N X.env.scope scp mine)
    (pgo : ∀ (s : Shared) (H : Hp) (C : Addr) (cl : List (Str × Addr)) (foot : List Addr), PG (X.blk s H scp (compEnvC scp cl C X.env) foot) tgt gt) (pts0 : ∀ (s : Shared) (H : Hp) (C : Addr) (cl : List (Str × Addr)) (foot : List Addr), PTs (X.blk s H scp (compEnvC scp cl C X.env) foot) tests tst)
    (pke : ∀ (s : Shared) (H : Hp) (C : Addr) (cl : List (Str × Addr)) (foot : List Addr), PE (X.blk s H scp (compEnvC scp cl C X.env) foot) ke tke)
    (pee : ∀ (s : Shared) (H : Hp) (C : Addr) (cl : List (Str × Addr)) (foot : List Addr), PE (X.blk s H scp (compEnvC scp cl C X.env) foot) ve tva) (fol : ∀ x, foldedSetIterable itr X.env x = pure x)
    (hyp : tDcT wit gt tst tke tva (mine.map (·.2)) σ H Q)
    (fini : ∀ D C s' m H', Inv X pins σ H' s' → Q (.ref D) H' → s'.heap.Ns C m → FpOk X pins H' C → compPost (model X.prog X.w) X.A X.xe use Qf (.ref D) C (.ok .next) s') :
    wpAny (model X.prog X.w) X.A (comprehension (.DictComp ke ve [⟨tgt, itr, tests, 0⟩] scp ps0) scp X.env ps1 newDict false (eval itr X.env) use) Qf X.xe s := by
  have freed : ∀ y ∈ scp.names, y.2 = .free → ∃ c, X.env.cells.lookup y.1 = some c := fun y hy e => by
    rcases blo.free y hy e with k | k
    · exact I.ok.has _ (.inl k)
    · exact I.ok.has _ (.inr k)
  refine wpAny_comprehension_free (use := use) rfl fol (closure_ok freed) blo.kind (fun y hy e => by rw [blo.uniq y hy, e])
    (thn (pit.run pins s σ H _ I hyp) fun xva s1 ehx => thn ehx fun itva sh2 eh2 => ?_)
  obtain ⟨itt, foot, tur, J, Hp2, e, In2, Tn, sta2, fo2, qu⟩ := eh2
  subst e
  refine wpAny_newObj_type (newEnv_comp ?_)
  generalize eD : sh2.heap.objs.size = D
  have newD : Hp2 D = none := In2.hok.fresh (Nat.le_of_eq eD)
  obtain ⟨Wt, ⟨mm, ww⟩, each⟩ := qu D newD
  -- the new list
  generalize es3 : ({ sh2 with heap := sh2.heap.push { cls := .type "dict", data := .dict #[] } } : Shared) = sh3
  have In3 : Inv X pins σ (upd Hp2 D (.dT [])) sh3 := by
    rw [← es3]
    refine In2.laid (t' := sh2.toks) (fun b o e => Heap.get?_push_of_some _ e) (Nat.le_of_eq eD) ?_
    rw [← eD]
    exact dt_empty sh2.heap In2.big
  have eh3 : sh3.heap = sh2.heap.push { cls := .type "dict", data := .dict #[] } := by rw [← es3]
  have size : ∀ b ∈ foot, b < sh2.heap.objs.size := fun b hb => by
    obtain ⟨o, e, _⟩ := Tn.obj _ _ sta2 b hb
    exact Heap.lt_size e
  have fo3 : ∀ b ∈ foot, FpOk X pins (upd Hp2 D (.dT [])) b ∧ b < sh3.heap.objs.size := fun b hb => by
    have elt := size b hb
    refine ⟨⟨?_, (fo2 b hb).2⟩, by rw [eh3, Heap.size_push]; exact Nat.lt_succ_of_lt elt⟩
    rw [upd_ne (by rw [← eD]; exact Nat.ne_of_lt elt)]
    exact (fo2 b hb).1
  have sta3 : tur 0 sh3.heap := Tn.keep _ _ _ sta2 fun b _ o e => by rw [eh3]; exact Heap.get?_push_of_some _ e
  have In4 := block_start In3 blo ndn fo3
  have pga := pgo sh3 (upd Hp2 D (.dT [])) sh3.heap.objs.size (cellsFrom (sh3.heap.objs.size + 1) scp.names (cloFrom X.env.cells scp.names [])) foot
  have pta := pts0 sh3 (upd Hp2 D (.dT [])) sh3.heap.objs.size (cellsFrom (sh3.heap.objs.size + 1) scp.names (cloFrom X.env.cells scp.names [])) foot
  have pka := pke sh3 (upd Hp2 D (.dT [])) sh3.heap.objs.size (cellsFrom (sh3.heap.objs.size + 1) scp.names (cloFrom X.env.cells scp.names [])) foot
  have pea := pee sh3 (upd Hp2 D (.dT [])) sh3.heap.objs.size (cellsFrom (sh3.heap.objs.size + 1) scp.names (cloFrom X.env.cells scp.names [])) foot
  show codeAny _ _ (.compStart (.DictComp ke ve [⟨tgt, itr, tests, 0⟩] scp ps0) 0 (.ref itt) (.ref D) (compEnvC scp (cellsFrom (sh3.heap.objs.size + 1) scp.names (cloFrom X.env.cells scp.names [])) sh3.heap.objs.size X.env)) (compPost (model X.prog X.w) X.A X.xe use Qf (.ref D) sh3.heap.objs.size) { sh3 with heap := pushCells (sh3.heap.push { cls := .type "dict", data := .dict #[] }) scp.names }
  have nof : ∀ b ∈ foot, (upd Hp2 D (.dT [])) b = none := fun b hb => (fo3 b hb).1.1
  generalize ecen : compEnvC scp (cellsFrom (sh3.heap.objs.size + 1) scp.names (cloFrom X.env.cells scp.names [])) sh3.heap.objs.size X.env = cen at In4 pga pta pka pea ⊢
  have eloc : cen.locals = sh3.heap.objs.size := by subst ecen; rfl
  generalize eH3 : upd Hp2 D (.dT []) = Hp3 at In3 In4 pga pta pka pea ww nof fo3
  generalize es4 : ({ sh3 with heap := pushCells (sh3.heap.push { cls := .type "dict", data := .dict #[] }) scp.names } : Shared) = sh4 at In4 ⊢
  have sta4 : tur 0 sh4.heap := Tn.keep _ _ _ sta3 fun b _ o e => by rw [← es4]; exact pushCells_keeps _ _ _ _ (Heap.get?_push_of_some _ e)
  have stati : ∀ {σ' : L2.St} {H' : Hp} {s' : Shared}, Inv (X.blk sh3 Hp3 scp cen foot) [] σ' H' s' → (∀ b ∈ foot, H' b = none) → ∀ b ∈ foot, FpOk (X.blk sh3 Hp3 scp cen foot) [] H' b := fun {σ' H' s'} I' ehn b hb =>
    ⟨ehn b hb, (I'.ok.exf b hb).1, I'.ok.exfs b hb, .inl hb, fun x c e => (I'.ok.exf b hb).2 x c e, fun p hp => absurd (show p ∈ ([] : List (Addr × Obj)) ++ [] from hp) (by simp)⟩
  have looped : codeAny (model X.prog X.w) X.A (.compLoop (.DictComp ke ve [⟨tgt, itr, tests, 0⟩] scp ps0) 0 (.ref itt) (.ref D) cen) (compPost (model X.prog X.w) X.A X.xe use Qf (.ref D) sh3.heap.objs.size) sh4 := by
    refine compLoop_anyD (fun n s' => ∃ i H', Inv (X.blk sh3 Hp3 scp cen foot) [] (wipe σ (mine.map (·.2))) H' s' ∧ tur i s'.heap ∧ (∀ b ∈ foot, H' b = none) ∧ Wt i n H') ?_ mm ⟨0, Hp3, In4, sta4, nof, ww⟩
    rintro n sh5 ⟨i, Hp5, In5, sta5, no5, wt5⟩
    rcases each i n Hp5 wt5 with ⟨stops, qfin⟩ | ⟨going, Next, eNext, stepped⟩
    · have tdo := Tn.done (X.blk sh3 Hp3 scp cen foot) rfl rfl rfl cal i [] sh5 _ Hp5 (fun _ _ => False) In5 (stati In5 no5) sta5 stops
      refine thnF tdo fun r sh6 ⟨ehr, In6⟩ => ?_
      subst ehr
      -- back in the def's context
      have In7 : Inv X pins σ Hp5 sh6 := In3.call' (ch := foot) In6.os In6.base In6.hok In6.bare fun b hb => ⟨(fo3 b hb).1.2.2.2.1, (fo3 b hb).1.2.1, (fo3 b hb).1.2.2.2.2.1, (fo3 b hb).1.2.2.2.2.2⟩
      have noC : Hp5 sh3.heap.objs.size = none := by
        have z : Hp5 cen.locals = none := In6.free
        rw [eloc] at z
        exact z
      obtain ⟨m, ehn, _⟩ := In6.loc
      have ehn : sh6.heap.Ns cen.locals m := ehn
      rw [eloc] at ehn
      exact fini D sh3.heap.objs.size sh6 m Hp5 In7 qfin ehn (In3.fpOk (Nat.le_refl _) noC)
    · have tit := Tn.item (X.blk sh3 Hp3 scp cen foot) rfl rfl rfl cal i [] sh5 _ Hp5 (fun _ _ => False) In5 (stati In5 no5) sta5 going
      refine thnF tit fun r sh6 ⟨u, ehr, eh6⟩ => ?_
      subst ehr
      refine thnF eh6 fun _ sh7 ⟨x, Hp7, In7, re7, ye7, sta7, no7⟩ => ?_
      have In7' := In7.pinned (stati In7 no7) (Tn.obj _ _ sta7)
      refine thnF (pga.run _ sh7 _ Hp7 x u _ In7' re7 (stepped x Hp7 ye7)) fun _ sh8 ⟨σ8, Hp8, In8, ew8, qu8⟩ => ?_
      refine thnF (pta.run _ sh8 σ8 Hp8 _ In8 qu8) fun b sh9 ⟨Hp9, In9, qu9⟩ => ?_
      -- the turn's end
      have fin_ : ∀ {s' : Shared} {H' : Hp}, Inv (X.blk sh3 Hp3 scp cen foot) ([] ++ pinsAt foot sh7.heap) σ8 H' s' → Next H' → ∃ m, m < n ∧ ∃ i H', Inv (X.blk sh3 Hp3 scp cen foot) [] (wipe σ (mine.map (·.2))) H' s' ∧ tur i s'.heap ∧ (∀ b ∈ foot, H' b = none) ∧ Wt i m H' := fun {s' H'} I' nxt => by
        obtain ⟨m', ehm, wt'⟩ := eNext H' nxt
        have pinned_ : ∀ b ∈ foot, ∀ o, sh7.heap.get? b = some o → s'.heap.get? b = some o ∧ H' b = none := fun b hb o e =>
          let z := I'.pin (b, o) (List.mem_append_right _ (List.mem_append_right _ (mem_pinsAt hb e)))
          ⟨z.1, z.2.1⟩
        have ehl : (wipe σ (mine.map (·.2))).length = σ8.length := by rw [← ew8, wipe_length]
        refine ⟨m', ehm, i + 1, H', (I'.unpinned (pins := [])).weak ehl (fun j v e => ?_), Tn.keep _ _ _ sta7 fun b hb o e => (pinned_ b hb o e).1, fun b hb => ?_, wt'⟩
        · rw [← ew8] at e
          exact (wipe_some e).1
        · obtain ⟨o, e, _⟩ := Tn.obj _ _ sta7 b hb
          exact (pinned_ b hb o e).2
      cases b with
      | false =>
        simp only [Bool.false_eq_true, if_false] at qu9 ⊢
        exact fin_ In9 qu9
      | true =>
        simp only [if_true] at qu9 ⊢
        refine thnF (pka.run _ sh9 σ8 Hp9 _ In9 qu9) fun z sh10 ⟨yke, Hp10, In10, re10, qu10⟩ => ?_
        refine thnF (pea.run _ sh10 σ8 Hp10 _ In10 qu10) fun zz sh11 ⟨yva, Hp11, In11, re11, kvs, k, bb, eke, ebb, eD11, ez11, nxt⟩ => ?_
        subst eke
        obtain rfl : z = Value.ref bb := re10
        exact d_dictSetT (X := X.blk sh3 Hp3 scp cen foot) hu In11 ebb eD11 ez11 re11 fun sh12 In12 => fin_ In12 nxt
  exact codeAny_compStart_dict looped (Tn.self X.A 0 _ _ _ sta4 looped)
/-- as a value -/
theorem pe_dcT {ke ve tgt itr : Expr} {tests : List Expr} {scp : Scope} {mine : List (Str × Nat)} {ps0 : Pos} {wit : TI} {gt : TG} {tst : TT} {tke tva : TE} (cal : X.calm = true) (hu : X.A.units < cLine) (ndn : X.N.Nodup) (pit : PI X tgt itr wit) (blo : BlkOk X.N X.env.scope scp mine)
    (pgo : ∀ (s : Shared) (H : Hp) (C : Addr) (cl : List (Str × Addr)) (foot : List Addr), PG (X.blk s H scp (compEnvC scp cl C X.env) foot) tgt gt) (pts0 : ∀ (s : Shared) (H : Hp) (C : Addr) (cl : List (Str × Addr)) (foot : List Addr), PTs (X.blk s H scp (compEnvC scp cl C X.env) foot) tests tst)
    (pke : ∀ (s : Shared) (H : Hp) (C : Addr) (cl : List (Str × Addr)) (foot : List Addr), PE (X.blk s H scp (compEnvC scp cl C X.env) foot) ke tke)
    (pee : ∀ (s : Shared) (H : Hp) (C : Addr) (cl : List (Str × Addr)) (foot : List Addr), PE (X.blk s H scp (compEnvC scp cl C X.env) foot) ve tva) (fol : ∀ x, foldedSetIterable itr X.env x = pure x := by intro _; rfl) :
    PE X (.DictComp ke ve [⟨tgt, itr, tests, 0⟩] scp ps0) (tDcT wit gt tst tke tva (mine.map (·.2))) := by
  refine ⟨fun pins s σ H Q I hyp => ?_⟩
  rw [arm_eval_DictComp]
  refine dcT_core cal hu ndn I pit blo pgo pts0 pke pee fol hyp fun D C s' m H' I' qu ehn f => ⟨m, ehn, fun h'' sb => ?_⟩
  obtain ⟨e0, e1, fo2, fo3, f4, f5⟩ := f
  exact ⟨.ref D, H', I'.turned (t' := s'.toks) (fun b o hb e => (sb.2 b hb).trans e) e0 e1 fo3 f4 f5, rfl, qu⟩
end
end Ah
set_option Elab.async false
set_option linter.all false
set_option maxRecDepth 100000
set_option maxHeartbeats 4000000
namespace Ah
open PySem PySem.Spec PyProof.Rows L2
open PySem.W (AllAlike Sortable)
/-! ### a dict whose keys are pairs, all of them True -/
def keyP (p : Str × Str) : List Key := [.inr p.1, .inr p.2]
def kvsOf (ks : List (Str × Str)) : List (List Key × V) := ks.map fun p => (keyP p, V.bl true)
def putP (ks : List (Str × Str)) (p : Str × Str) : List (Str × Str) := if p ∈ ks then ks else ks ++ [p]
theorem keyP_inj {p q : Str × Str} (h : keyP p = keyP q) : p = q := by
  unfold keyP at h
  injection h with h1 h2
  injection h2 with h2 _
  exact Prod.ext (Sum.inr.inj h1) (Sum.inr.inj h2)
theorem valV_kvs (ks : List (Str × Str)) (p : Str × Str) : (valV (kvsOf ks) (keyP p)).isSome = decide (p ∈ ks) := by
  induction ks with
  | nil => rfl
  | cons q r ih =>
    by_cases e : q = p
    · subst e
      rw [show kvsOf (q :: r) = (keyP q, V.bl true) :: kvsOf r from rfl, valV_pos rfl, decide_eq_true (List.mem_cons_self ..)]
      rfl
    · rw [show kvsOf (q :: r) = (keyP q, V.bl true) :: kvsOf r from rfl, valV_neg (fun z => e (keyP_inj z)), ih]
      have : p ∈ q :: r ↔ p ∈ r := ⟨fun h => (List.mem_cons.mp h).resolve_left fun z => e z.symm, List.mem_cons_of_mem _⟩
      simp only [this]
theorem putK_kvs (ks : List (Str × Str)) (p : Str × Str) : putK (kvsOf ks) (keyP p) (V.bl true) = kvsOf (putP ks p) := by
  unfold putK putP
  have e1 : ((kvsOf ks).any fun kv => decide (kv.1 = keyP p)) = decide (p ∈ ks) := by
    rw [Bool.eq_iff_iff, List.any_eq_true, decide_eq_true_iff]
    constructor
    · rintro ⟨kv, h1, h2⟩
      obtain ⟨q, hq, rfl⟩ := List.mem_map.mp h1
      exact keyP_inj (of_decide_eq_true h2) ▸ hq
    · intro h
      exact ⟨_, List.mem_map.mpr ⟨p, h, rfl⟩, decide_eq_true rfl⟩
  rw [e1]
  by_cases h : p ∈ ks
  · rw [if_pos (decide_eq_true h), if_pos h]
    unfold kvsOf
    rw [List.map_map]
    refine List.map_congr_left fun q _ => ?_
    show (if keyP q = keyP p then (keyP q, V.bl true) else (keyP q, V.bl true)) = _
    split <;> rfl
  · rw [if_neg (fun z => h (of_decide_eq_true z)), if_neg h]
    unfold kvsOf
    rw [List.map_append]
    rfl
theorem putP_mem {ks : List (Str × Str)} {p q : Str × Str} : q ∈ putP ks p ↔ q ∈ ks ∨ q = p := by
  unfold putP
  split
  · rename_i h
    exact ⟨.inl, fun z => z.elim id fun e => e ▸ h⟩
  · rw [List.mem_append, List.mem_singleton]
theorem putP_nodup {ks : List (Str × Str)} {p : Str × Str} (h : ks.Nodup) : (putP ks p).Nodup := by
  unfold putP
  split
  · exact h
  · rename_i hp
    rw [List.nodup_append]
    exact ⟨h, List.nodup_cons.mpr ⟨List.not_mem_nil, List.nodup_nil⟩, fun a ha b hb e => hp (by rw [← List.mem_singleton.mp hb, ← e]; exact ha)⟩
theorem putP_len (ks : List (Str × Str)) (p : Str × Str) : (putP ks p).length ≤ ks.length + 1 := by
  unfold putP
  split
  · omega
  · rw [List.length_append]; exact Nat.le_refl _
theorem keyD_kvs (ks : List (Str × Str)) : ((kvsOf ks).map fun kv => keyD kv.1) = ks.map prD := by
  unfold kvsOf
  rw [List.map_map]
  rfl
theorem kvs_len (ks : List (Str × Str)) : (kvsOf ks).length = ks.length := List.length_map ..
/-- what sorted tells of the keys -/
theorem keys_sorted {H : Hp} {ks ds : List (Str × Str)} {bs : List Addr} {zs : List (V × PyData)} (isk : IsKeys H (kvsOf ks) bs) (pm : zs.Perm ((bs.map V.ref).zip (ks.map prD))) (e : zs.map (·.2) = ds.map prD) : PrsV H (zs.map (·.1)) ds := by
  have inj : ∀ p q : Str × Str, prD p = prD q → p = q := fun p q h => by
    unfold prD at h
    injection h with h
    injection h with h1 h2
    injection h2 with h2 _
    injection h1 with h1
    injection h2 with h2
    exact Prod.ext h1 h2
  have all : ∀ z ∈ (bs.map V.ref).zip (ks.map prD), ∃ p, z.2 = prD p ∧ PrV H z.1 p := by
    clear pm e
    unfold IsKeys at isk
    induction ks generalizing bs with
    | nil =>
      intro z hz
      rw [List.map_nil, List.zip_nil_right] at hz
      cases hz
    | cons p r ih =>
      cases isk with
      | cons h t =>
        intro z hz
        rcases List.mem_cons.mp hz with e | hz
        · subst e
          exact ⟨p, rfl, _, rfl, h⟩
        · exact ih t z hz
  have all2 : ∀ z ∈ zs, ∃ p, z.2 = prD p ∧ PrV H z.1 p := fun z hz => all z (pm.mem_iff.mp hz)
  clear pm isk all
  induction zs generalizing ds with
  | nil =>
    cases ds with
    | nil => trivial
    | cons d r => cases e
  | cons z zs ih =>
    cases ds with
    | nil => cases e
    | cons d r =>
      rw [List.map_cons, List.map_cons] at e
      injection e with e1 e2
      obtain ⟨p, h1, h2⟩ := all2 z (List.mem_cons_self ..)
      have : p = d := inj _ _ (h1.symm.trans e1)
      subst this
      exact ⟨h2, ih e2 fun y hy => all2 y (List.mem_cons_of_mem _ hy)⟩
end Ah
set_option Elab.async false
set_option linter.all false
set_option maxRecDepth 100000
set_option maxHeartbeats 4000000
namespace Ah
open PySem PySem.Spec PyProof.Rows L2
/-- a dict comprehension, keys tuples, over what stands still -/
theorem dcT_gen {J : It} {n : Nat} {item : Nat → V} {g : TG} {tt : TT} {tk tv : TE} {vs : List Nat} {σ : L2.St} {H1 : Hp} {D : Addr} {Qd : Hp → Prop} (Pv : Nat → Hp → Prop) (h0 : Pv 0 (upd H1 D (.dT [])))
    (hgo : ∀ i H, i < n → Pv i H → J.go i H) (hst : ∀ H, Pv n H → J.stop n H) (hy : ∀ i H x H', i < n → Pv i H → J.yld i H x H' → H' = H ∧ x = item i)
    (hs : ∀ i H, i < n → Pv i H → g (item i) (wipe σ vs) H fun σ2 H2 => wipe σ2 vs = wipe σ vs ∧ tt σ2 H2 fun b H3 =>
      if b = true then tk σ2 H3 fun y H4 => tv σ2 H4 fun z H5 => ∃ (kvs : List (List Key × V)) (k : List Key) (b : Addr), y = .ref b ∧ H5 b = some (.tup (k.map kV)) ∧ H5 D = some (.dT kvs) ∧ kvs.length < sizeLine ∧ Pv (i + 1) (upd H5 D (.dT (putK kvs k z))) else Pv (i + 1) H3) (hd : ∀ H, Pv n H → Qd H) :
    ∃ Wt : Nat → Nat → Hp → Prop, (∃ m, Wt 0 m (upd H1 D (.dT []))) ∧ ∀ i m H, Wt i m H →
      (J.stop i H ∧ Qd H) ∨ (J.go i H ∧ ∃ Next : Hp → Prop, (∀ H', Next H' → ∃ m', m' < m ∧ Wt (i + 1) m' H') ∧ ∀ x H', J.yld i H x H' → g x (wipe σ vs) H' fun σ2 H2 => wipe σ2 vs = wipe σ vs ∧ tt σ2 H2 fun b H3 =>
        if b = true then tk σ2 H3 fun y H4 => tv σ2 H4 fun z H5 => ∃ (kvs : List (List Key × V)) (k : List Key) (b : Addr), y = .ref b ∧ H5 b = some (.tup (k.map kV)) ∧ H5 D = some (.dT kvs) ∧ kvs.length < sizeLine ∧ Next (upd H5 D (.dT (putK kvs k z))) else Next H3) := by
  refine ⟨fun i m H => m = n - i ∧ i ≤ n ∧ Pv i H, ⟨n, rfl, Nat.zero_le _, h0⟩, ?_⟩
  rintro i m H ⟨rfl, hi, p⟩
  rcases Nat.lt_or_ge i n with hlt | hge
  · refine .inr ⟨hgo i H hlt p, Pv (i + 1), fun H' p' => ⟨n - (i + 1), by omega, rfl, hlt, p'⟩, fun x H' y => ?_⟩
    obtain ⟨rfl, rfl⟩ := hy i H x H' hlt p y
    exact hs i _ hlt p
  · obtain rfl : i = n := by omega
    exact .inl ⟨hst H p, hd H p⟩
/-- what walks a list or a tuple -/
structure Goer (J : It) (L : Hp → Prop) (xs : List V) : Prop where
  go : ∀ i H, i < xs.length → L H → J.go i H
  stop : ∀ H, L H → J.stop xs.length H
  yld : ∀ i H x H', L H → i < xs.length → J.yld i H x H' → H' = H ∧ x = xs.getD i .non
  keep : ∀ H H', Same H H' → L H → L H'
theorem goer_l (K : PySem.W.Frag) (a : Addr) (xs : List V) : Goer (Itl K a) (fun H => H a = some (.lst xs)) xs where
  go i H hi h := ⟨xs, xs[i], SqL.of h, List.getElem?_eq_getElem hi⟩
  stop H h := ⟨xs, SqL.of h, Nat.le_refl _⟩
  yld i H x H' h hi y := by
    obtain ⟨e, y⟩ := y
    refine ⟨e, ?_⟩
    have := y xs (SqL.of h)
    rw [List.getD_eq_getElem?_getD, this]
    rfl
  keep H H' s h := s _ _ h
theorem goer_t (K : PySem.W.Frag) (a : Addr) (xs : List V) : Goer (Itt K a) (fun H => Rd H a (.tup xs)) xs where
  go i H hi h := ⟨xs, xs[i], .inl h, List.getElem?_eq_getElem hi⟩
  stop H h := ⟨xs, .inl h, Nat.le_refl _⟩
  yld i H x H' h hi y := by
    obtain ⟨e, y⟩ := y
    refine ⟨e, ?_⟩
    have := y xs (.inl h)
    rw [List.getD_eq_getElem?_getD, this]
    rfl
  keep H H' s h := rd_same s h
theorem iOr_by {K : PySem.W.Frag} {tl : TE} {a : Addr} {xs : List V} {σ : L2.St} {H H1 : Hp} {R : It → Hp → Prop} (ht : ∀ Q : VK, Q (.ref a) H1 → tl σ H Q) (h : LTu H1 a xs) (k : ∀ J L, Goer J L xs → L H1 → R J H1) : iOr (iList K tl) (iTup K tl) σ H R := by
  rcases h with h | h
  · exact .inl (ht _ ⟨a, rfl, ⟨xs, SqL.of h⟩, k _ _ (goer_l K a xs) h⟩)
  · exact .inr (ht _ ⟨a, rfl, ⟨xs, .inl h⟩, k _ _ (goer_t K a xs) h⟩)
/-- the dict of these keys -/
def HeldT (H : Hp) (D : Addr) (ks : List (Str × Str)) : Prop := H D = some (.dT (kvsOf ks))
def putPs (ks : List (Str × Str)) : List (Str × Str) := ks.foldl putP []
theorem putPs_snoc (ks : List (Str × Str)) (p : Str × Str) : putPs (ks ++ [p]) = putP (putPs ks) p := by
  unfold putPs
  rw [List.foldl_append]
  rfl
theorem putPs_mem (ks : List (Str × Str)) : ∀ q, q ∈ putPs ks ↔ q ∈ ks := by
  have : ∀ (l acc : List (Str × Str)) q, q ∈ l.foldl putP acc ↔ q ∈ acc ∨ q ∈ l := by
    intro l
    induction l with
    | nil => intro acc q; simp
    | cons p r ih =>
      intro acc q
      rw [List.foldl_cons, ih, putP_mem, List.mem_cons, or_assoc]
  intro q
  exact (this ks [] q).trans (by simp)
theorem putPs_nodup (ks : List (Str × Str)) : (putPs ks).Nodup := by
  have : ∀ (l acc : List (Str × Str)), acc.Nodup → (l.foldl putP acc).Nodup := by
    intro l
    induction l with
    | nil => exact fun _ h => h
    | cons p r ih => exact fun acc h => ih _ (putP_nodup h)
  exact this ks [] List.nodup_nil
theorem putPs_len (ks : List (Str × Str)) : (putPs ks).length ≤ ks.length := by
  have : ∀ (l acc : List (Str × Str)), (l.foldl putP acc).length ≤ acc.length + l.length := by
    intro l
    induction l with
    | nil => exact fun _ => Nat.le_refl _
    | cons p r ih =>
      intro acc
      have h1 := ih (putP acc p)
      have h2 := putP_len acc p
      rw [List.foldl_cons, List.length_cons]
      omega
  have q := this ks []
  rw [List.length_nil, Nat.zero_add] at q
  exact q
abbrev sIsWeb : Stmt := topS 11
section
variable {P : Program} {w : World} {K : PySem.W.Frag} {mg : Str → Option Value} {base : Heap}
theorem scIsWeb : FnScope ["hands", "thing", "held", "pair", "a", "b", "other", "c"] ["hands", "thing"] (defScope sIsWeb) := ⟨rfl, rfl, rfl, by decide +kernel, rfl, by decide +kernel, by decide +kernel⟩
/-- of a web -/
def spIsWeb : Sp := fun vs H Q _ => ∃ (g t : Addr) (us : List V) (hs : List Str) (ps : List (Str × Str)), vs = [.ref g, .ref t] ∧ LTu H g (hs.map V.str) ∧ Rd H t (.tup us) ∧ PrsV H us ps ∧ ps.Pairwise pLt ∧ ps.length ≤ 64 ∧ (∀ x y, (x, y) ∈ ps → x ∈ hs ∧ y ∈ hs ∧ x ≠ y) ∧
  (∀ x y z, (x, y) ∈ ps → (y, z) ∈ ps → (x, z) ∈ ps) ∧ ∀ H', Same H H' → Q (.bl true) H'
theorem ok_isWeb {f f1 f2 : Addr} {fd fd1 fd2 : FuncData} (F : Fun K "is_web" "is_web" sIsWeb f fd) (B : Blt2 mg) (D1 : Df P w K mg base CX0 "is_pair" 1 f1 fd1 ["hands", "thing"] spIsPair) (D2 : Df P w K mg base CX0 "is_rising" 1 f2 fd2 ["things"] spRising) : FnOk P w K mg base CX0 2 f fd ["hands", "thing"] spIsWeb := by
  refine F.ok scIsWeb (fun vs H Q E h => ?_) (fun cdv A outer s H vs Q E hr h => ?_)
  · obtain ⟨g, t, us, hs, ps, rfl, _⟩ := h
    rfl
  · obtain ⟨g, t, us, hs, ps, rfl, hg, ht, hps, hp, hl, hin, htr, k⟩ := h
    have nd := scIsWeb.nd
    have hu := hu_of hr
    have hu1 : (A.deeper (envOfC "is_web" (defScope sIsWeb) s.heap.objs.size f cdv)).units < cLine := by
      have := hu
      omega
    refine ⟨_, pss_cons (ps_if (PW.pt (pw_or (pt_not (pt_val (pe_callB call_isi (by rfl) B.isinstance (by decide +kernel) (pa_cons (pv 1) (pa_cons (pe_bltn (v := .ty "tuple") (by rfl) B.tuple (by decide +kernel) rfl) pa_nil)))))
          (pw_or1 (pt_not (pt_val (pe_callB (cr_all rfl) (by rfl) B.all (by decide +kernel) (pa_cons (pe_lc (own := [("pair", 3)]) (g := gName 3) (tt := tYes) (te := tCall spIsPair [] E0 (tCons (tVar 0) (tCons (tVar 3) tNil))) rfl nd (pi_tup (pv 1))
            (blkOk_by (N := ["hands", "thing", "held", "pair", "a", "b", "other", "c"]) (sc := defScope sIsWeb) (by decide +kernel)) (fun _ _ _ _ _ => pg_name (i := 3) nd rfl (Or.inl rfl)) (fun _ _ _ _ _ => pts_nil)
            (fun _ _ _ _ _ => pe_call D1.ok hr rfl D1.g D1.kp D1.b .nil pass0 (pa_cons (pv 0) (pa_cons (pv 3) pa_nil)))) pa_nil))))))) (pss_one (ps_ret pe_bl)) pss_nil)
      (pss_cons (ps_if (pt_not (pt_val (pe_call D2.ok hr rfl D2.g D2.kp D2.b .nil pass0 (pa_cons (pv 1) pa_nil)))) (pss_one (ps_ret pe_bl)) pss_nil)
      (pss_cons (ps_set (i := 2) nd rfl (.inr rfl) (pe_dcT (mine := [("pair", 3)]) (tst := tYes) (gt := gName 3) (tke := tVar 3) (tva := tC (.bl true)) rfl hu1 nd (pi_tup (pv 1)) (blkOk_by (N := ["hands", "thing", "held", "pair", "a", "b", "other", "c"]) (sc := defScope sIsWeb) (by decide +kernel))
          (fun _ _ _ _ _ => pg_name (i := 3) nd rfl (Or.inl rfl)) (fun _ _ _ _ _ => pts_nil) (fun _ _ _ _ _ => pv 3) (fun _ _ _ _ _ => pe_bl)))
      (pss_one (ps_ret (pe_callB (cr_all rfl) (by rfl) B.all (by decide +kernel) (pa_cons (pe_lc2 (own := [("a", 4), ("b", 5), ("other", 6), ("c", 7)]) (vs1 := [6, 7]) (tt := tYes) (g := gTup K 2 (gCons (gName 4) (gCons (gName 5) gNil))) (wi1 := iTup K (tVar 1)) (g1 := gTup K 2 (gCons (gName 6) (gCons (gName 7) gNil))) (tt1 := tTest (tOp rEq (tVar 6) (tVar 5))) (te := tDIn (tTup (tCons (tVar 4) (tCons (tVar 7) tNil))) (tVar 2)) rfl nd (pi_tup (pv 1))
          (blkOk_by (N := ["hands", "thing", "held", "pair", "a", "b", "other", "c"]) (sc := defScope sIsWeb) (by decide +kernel)) (by decide)
          (fun _ _ _ _ _ => pg_tup rfl (pgs_cons (pg_name (i := 4) nd rfl (Or.inl rfl)) (pgs_cons (pg_name (i := 5) nd rfl (Or.inl rfl)) pgs_nil))) (fun _ _ _ _ _ => pts_nil)
          (fun _ _ _ _ _ => pi_tup (pv 1)) (fun _ _ _ _ _ => pg_tup rfl (pgs_cons (pg_name (i := 6) nd rfl (Or.inl rfl)) (pgs_cons (pg_name (i := 7) nd rfl (Or.inl rfl)) pgs_nil)))
          (fun _ _ _ _ _ => pts_one (pt_cmpR op_eq (pv 6) (pv 5) (nomark _)))
          (fun _ _ _ _ _ => pe_cmp (pc_din hu (pe_tup (pa_cons (pv 4) (pa_cons (pv 7) pa_nil))) (pv 2)))) pa_nil)))))), ?_⟩
    have lu := hps.len
    refine ⟨_, rfl, .ref t, .ty "tuple", _, _, true, rfl, .ty "tuple", ty_tup ht, kit_ty (by decide +kernel), _, rfl, ?_⟩
    refine iteF ⟨_, rfl, t, rfl, ⟨_, .inl ht⟩, fun D0 hD0 => ?_⟩
    refine lc_tup (K := K) (a := t) (xs := us) (fun i H2 => Same H H2 ∧ H2 D0 = some (.lst ((List.replicate i true).map V.bl))) ⟨same_new hD0, upd_same⟩ (fun i H2 _ q => .inl (rd_same q.1 ht)) ?_ ?_
    · rintro i x H2 hx ⟨s2, e2⟩
      obtain ⟨p, hp', vp⟩ := hps.get hx
      have hpm : (p.1, p.2) ∈ ps := List.mem_of_getElem? hp'
      have hil := (List.getElem?_eq_some_iff.mp hx).1
      refine ⟨rfl, _, rfl, _, rfl, g, x, hs, p, rfl, hg.same s2, vp.same s2, ?_⟩
      rw [decide_eq_true (hin _ _ hpm)]
      refine ⟨_, e2, ?_, same_mut s2 hD0, ?_⟩
      · rw [List.length_map, List.length_replicate]
        exact small1000 (by omega)
      · rw [upd_same, List.replicate_succ', List.map_append]
        rfl
    rintro H2 ⟨s2, e2⟩
    refine ⟨D0, _, rfl, SqL.of e2, true, ?_, ?_⟩
    · rw [List.all_replicate]
      split <;> rfl
    refine iteF ⟨_, rfl, t, us, ps, rfl, rd_same s2 ht, hps.same s2, hp, by omega, fun H3 s3 => ⟨true, rfl, ?_⟩⟩
    have s23 := s2.trans s3
    refine iteF ⟨_, rfl, t, rfl, ⟨_, .inl (rd_same s23 ht)⟩, fun D1 hD1 => ?_⟩
    refine dcT_gen (n := us.length) (item := fun i => us.getD i .non) (fun i H4 => Same H3 H4 ∧ HeldT H4 D1 (putPs (ps.take i))) ⟨same_new hD1, upd_same⟩ (fun i H4 hi q => (goer_t K t us).go i H4 hi (rd_same (s23.trans q.1) ht)) (fun H4 q => (goer_t K t us).stop H4 (rd_same (s23.trans q.1) ht)) (fun i H4 x H' hi q y => (goer_t K t us).yld i H4 x H' (rd_same (s23.trans q.1) ht) hi y) ?_ ?_
    · rintro i H4 hi ⟨s4, e4⟩
      have hx : us[i]? = some us[i] := List.getElem?_eq_getElem hi
      obtain ⟨p, hp', vp⟩ := hps.get hx
      obtain ⟨T, eT, hT⟩ := vp.same (s23.trans s4)
      have ex : us.getD i .non = .ref T := by
        rw [List.getD_eq_getElem?_getD, hx]
        exact eT
      have et : ps.take (i + 1) = ps.take i ++ [p] := by rw [List.take_succ, hp']; rfl
      rw [ex, et, putPs_snoc]
      refine ⟨rfl, _, rfl, _, keyP p, T, rfl, hT, e4, ?_, same_mut s4 hD1, ?_⟩
      · have h1 := putPs_len (ps.take i)
        rw [List.length_take] at h1
        rw [kvs_len]
        exact small1000 (by omega)
      · show upd H4 D1 _ D1 = _
        rw [upd_same, putK_kvs]
    rintro H4 ⟨s4, e4⟩
    rw [lu, List.take_length] at e4
    have s24 := s23.trans s4
    refine ⟨_, rfl, t, rfl, ⟨_, .inl (rd_same s24 ht)⟩, fun D2 hD2 => ?_⟩
    have ps_at : ∀ (i : Nat) (x : V) (H5 : Hp), us[i]? = some x → Same H4 H5 → ∃ p T, ps[i]? = some p ∧ x = .ref T ∧ H5 T = some (.tup [.str p.1, .str p.2]) := fun i x H5 hx s5 => by
      obtain ⟨p, hp', vp⟩ := hps.get hx
      obtain ⟨T, eT, hT⟩ := vp.same (s24.trans s5)
      exact ⟨p, T, hp', eT, hT⟩
    refine out_tup (K := K) (a := t) (xs := us) (fun i H5 => Same H4 H5 ∧ ∃ m, m ≤ 64 * i ∧ H5 D2 = some (.lst ((List.replicate m true).map V.bl))) ⟨same_new hD2, 0, Nat.le_refl _, upd_same⟩ (fun i H5 _ q => .inl (rd_same (s24.trans q.1) ht)) ?_ ?_
    · rintro i x H5 hx ⟨s5, m, lm, e5⟩
      obtain ⟨p, T, hp', rfl, hT⟩ := ps_at i x H5 hx s5
      have hil := (List.getElem?_eq_some_iff.mp hx).1
      refine ⟨T, _, rfl, .inl (.inl hT), rfl, _, _, rfl, _, _, rfl, rfl, rfl, ?_⟩
      refine ⟨_, rfl, t, rfl, ⟨_, .inl (rd_same (s24.trans s5) ht)⟩, ?_⟩
      refine out_tup (K := K) (a := t) (xs := us) (fun j H6 => Same H4 H6 ∧ ∃ m, m ≤ 64 * i + j ∧ H6 D2 = some (.lst ((List.replicate m true).map V.bl))) ⟨s5, m, lm, e5⟩ (fun j H6 _ q => .inl (rd_same (s24.trans q.1) ht)) ?_ ?_
      · rintro j y H6 hy ⟨s6, m6, l6, e6⟩
        obtain ⟨q, T2, hq', rfl, hT2⟩ := ps_at j y H6 hy s6
        have hjl := (List.getElem?_eq_some_iff.mp hy).1
        refine ⟨T2, _, rfl, .inl (.inl hT2), rfl, _, _, rfl, _, _, rfl, rfl, rfl, ?_⟩
        refine ⟨_, rfl, _, rfl, rfl, _, rfl, ?_⟩
        by_cases c : q.1 = p.2
        · rw [decide_eq_true (congrArg V.str c)]
          have hin3 : (p.1, q.2) ∈ ps := htr p.1 p.2 q.2 (List.mem_of_getElem? hp') (c ▸ List.mem_of_getElem? hq')
          refine iteT ⟨_, rfl, _, rfl, by show 2 ≤ sizeLine; decide, fun T3 hT3 => ?_⟩
          have s7 : Same H6 (upd H6 T3 (.tup [.str p.1, .str q.2])) := same_new hT3
          refine ⟨_, rfl, D1, _, rfl, DGet.t (k := keyP (p.1, q.2)) (s7 _ _ (s6 _ _ e4)) upd_same, ?_⟩
          rw [valV_kvs, decide_eq_true ((putPs_mem ps _).mpr hin3)]
          refine ⟨_, s7 _ _ e6, ?_, same_mut (s6.trans s7) hD2, m6 + 1, by omega, ?_⟩
          · rw [List.length_map, List.length_replicate, sizeLine_eq]
            omega
          · rw [upd_same, List.replicate_succ', List.map_append]
            rfl
        · rw [decide_eq_false fun z => c (V.str.inj z)]
          exact iteF ⟨s6, m6, by omega, e6⟩
      · rintro H6 ⟨s6, m6, l6, e6⟩
        exact ⟨s6, m6, by omega, e6⟩
    · rintro H5 ⟨s5, m, lm, e5⟩
      refine ⟨D2, _, rfl, SqL.of e5, ?_⟩
      rw [List.all_replicate]
      have := k H5 (s24.trans s5)
      split
      · exact this
      · exact this
end
end Ah
set_option Elab.async false
set_option linter.all false
set_option maxRecDepth 100000
set_option maxHeartbeats 4000000
namespace Ah
open PySem PySem.Spec PyProof.Rows L2
abbrev sPen : Stmt := topS 24
theorem pen_new (c : Addr) (a l : Int) : mergeK [] (penK c a l) = penK c a l := by
  have e1 : (putK ([] : List (Key × V)) (.inr "cells" : Key) (V.ref c)) = [((.inr "cells" : Key), V.ref c)] := rfl
  have n1 : valV [((.inr "cells" : Key), V.ref c)] (.inr "at" : Key) = none := (valV_neg fun e => k_ca (Sum.inr.inj e)).trans rfl
  have n2 : valV [((.inr "cells" : Key), V.ref c), (.inr "at", .int a)] (.inr "left" : Key) = none := (valV_neg fun e => k_cl (Sum.inr.inj e)).trans ((valV_neg fun e => k_al (Sum.inr.inj e)).trans rfl)
  show putK (putK (putK ([] : List (Key × V)) (.inr "cells" : Key) (V.ref c)) (.inr "at" : Key) (V.int a)) (.inr "left" : Key) (V.int l) = _
  rw [e1, putK_new _ n1]
  show putK [((.inr "cells" : Key), V.ref c), (.inr "at", .int a)] (.inr "left" : Key) (V.int l) = _
  rw [putK_new _ n2]
  rfl
section
variable {P : Program} {w : World} {K : PySem.W.Frag} {mg : Str → Option Value} {base : Heap}
theorem scPen : FnScope ["script"] ["script"] (defScope sPen) := ⟨rfl, rfl, rfl, by decide +kernel, rfl, by decide +kernel, by decide +kernel⟩
def spPen (K : PySem.W.Frag) : Sp := fun vs H Q _ => ∃ (a : Addr) (ns : List Int), vs = [.ref a] ∧ SqL K H a (ns.map V.int) ∧ ∀ (p c : Addr) (H' : Hp), PenAt H' p c 0 → Q (.ref p) H'
theorem ok_pen {f : Addr} {fd : FuncData} (F : Fun K "_law_pen" "_law_pen" sPen f fd) (B : Blt2 mg) : FnOk P w K mg base CX0 1 f fd ["script"] (spPen K) := by
  refine F.ok scPen (fun vs H Q E h => ?_) (fun cdv A outer s H vs Q E hr h => ?_)
  · obtain ⟨a, ns, rfl, _⟩ := h
    rfl
  · obtain ⟨a, ns, rfl, ha, k⟩ := h
    refine ⟨_, pss_one (ps_ret (pe_disp (pps_cons pe_str (pe_callTy call_list_of (by rfl) B.list (by decide +kernel) (pa_cons (pe_slice sl_list (pv 0) po_none (po_some pe_int)) pa_nil)) (pps_cons pe_str pe_int (pps_cons pe_str pe_int pps_nil))) rfl rfl (by simp) (by decide))), ?_⟩
    refine fun p hp => ⟨_, rfl, _, rfl, a, ns.map V.int, rfl, (same_new hp).seq ha, fun l1 hl1 => ?_⟩
    refine ⟨l1, _, rfl, .inl (SqL.of upd_same), fun l2 hl2 => ?_⟩
    have s12 := (same_new (o := .lst (cutV (ns.map V.int) none (some 63))) hl1).trans (same_new (o := .lst (cutV (ns.map V.int) none (some 63))) hl2)
    refine ⟨s12 _ _ upd_same, penK l2 0 0, rfl, (by show 3 ≤ 15; decide), ?_⟩
    rw [pen_new]
    have nlp : l2 ≠ p := fun e => by
      rw [e] at hl2
      have := (same_new (o := .lst (cutV (ns.map V.int) none (some 63))) hl1) p _ upd_same
      rw [hl2] at this
      cases this
    refine k p l2 _ ⟨(ns.take (min 63 ns.length)), 0, 0, upd_same, ?_, by decide, by decide, by decide⟩
    rw [upd_ne nlp, upd_same]
    have ec : cutV (ns.map V.int) none (some 63) = (ns.take (min 63 ns.length)).map V.int := by
      unfold cutV
      rw [HT.sIx_none, show (63 : Int) = ((63 : Nat) : Int) from rfl, HT.sIx_nat, List.drop_zero, Nat.sub_zero, List.length_map, List.map_take]
    rw [ec]
end
end Ah
set_option Elab.async false
set_option linter.all false
set_option maxRecDepth 100000
set_option maxHeartbeats 4000000
namespace Ah
open PySem PySem.Spec PyProof.Rows L2
abbrev sCheckWeb : Stmt := topS 13
theorem idx_first {xs : List Str} {x : Str} {m : Nat} (h : m < xs.idxOf x) : xs[m]? ≠ some x := fun e => by
  have hm := (List.getElem?_eq_some_iff.mp e).1
  induction xs generalizing m with
  | nil => cases e
  | cons y r ih =>
    rw [List.idxOf_cons] at h
    by_cases q : y = x
    · subst q
      simp at h
    · have q' : (y == x) = false := by simp [q]
      rw [q'] at h
      cases m with
      | zero => exact q (Option.some.inj e)
      | succ m =>
        have h' : m < r.idxOf x := by simpa using h
        exact ih h' (by simpa using e) (by simpa using hm)
section
variable {P : Program} {w : World} {K : PySem.W.Frag} {mg : Str → Option Value} {base : Heap}
theorem pss_dead {X : Cx} {st : List Stmt} : PSs X st (fun _ _ _ => False) := ⟨fun _ _ _ _ _ _ h => h.elim⟩
theorem scCheckWeb : FnScope ["hands", "web"] ["hands", "web"] (defScope sCheckWeb) := ⟨rfl, rfl, rfl, by decide +kernel, rfl, by decide +kernel, by decide +kernel⟩
/-- what a web of hands is -/
structure WebAt (H : Hp) (t : Addr) (us : List V) (hs : List Str) (ps : List (Str × Str)) : Prop where
  at' : Rd H t (.tup us)
  prs : PrsV H us ps
  rises : ps.Pairwise pLt
  few : ps.length ≤ 64
  mem : ∀ x y, (x, y) ∈ ps → x ∈ hs ∧ y ∈ hs ∧ x ≠ y
  thru : ∀ x y z, (x, y) ∈ ps → (y, z) ∈ ps → (x, z) ∈ ps
theorem WebAt.same {H H' : Hp} {t : Addr} {us : List V} {hs : List Str} {ps : List (Str × Str)} (k : Same H H') (h : WebAt H t us hs ps) : WebAt H' t us hs ps :=
  ⟨rd_same k h.at', h.prs.same k, h.rises, h.few, h.mem, h.thru⟩
def spCheckWeb : Sp := fun vs H Q _ => ∃ (g t : Addr) (us : List V) (hs : List Str) (ps : List (Str × Str)), vs = [.ref g, .ref t] ∧ LTu H g (hs.map V.str) ∧ WebAt H t us hs ps ∧ ∀ H', Same H H' → Q .non H'
theorem ok_checkWeb {f f1 : Addr} {fd fd1 : FuncData} (F : Fun K "check_web" "check_web" sCheckWeb f fd) (D : Df P w K mg base CX0 "is_web" 2 f1 fd1 ["hands", "thing"] spIsWeb) : FnOk P w K mg base CX0 3 f fd ["hands", "web"] spCheckWeb := by
  refine F.ok scCheckWeb (fun vs H Q E h => ?_) (fun cdv A outer s H vs Q E hr h => ?_)
  · obtain ⟨g, t, us, hs, ps, rfl, _⟩ := h
    rfl
  · obtain ⟨g, t, us, hs, ps, rfl, hg, hw, k⟩ := h
    refine ⟨_, pss_one (ps_if (pt_not (pt_val (pe_call D.ok hr rfl D.g D.kp D.b .nil pass0 (pa_cons (pv 0) (pa_cons (pv 1) pa_nil))))) pss_dead pss_nil), ?_⟩
    exact ⟨_, rfl, _, rfl, g, t, us, hs, ps, rfl, hg, hw.at', hw.prs, hw.rises, hw.few, hw.mem, hw.thru, fun H' s => ⟨true, rfl, iteF (k H' s)⟩⟩
end
end Ah
set_option Elab.async false
set_option linter.all false
set_option maxRecDepth 100000
set_option maxHeartbeats 4000000
namespace Ah
open PySem PySem.Spec PyProof.Rows L2
abbrev sNexts : Stmt := topS 29
/-- hands that can come next behind a row -/
def lackOf (ps : List (Str × Str)) (row : List Str) : List Str := (ps.filter fun p => decide (p.1 ∉ row)).map fun p => p.2
def nextOf (ps : List (Str × Str)) (row ys : List Str) : List Str := ys.filter fun x => decide (x ∉ row ∧ x ∉ lackOf ps row)
theorem lackOf_mem {ps : List (Str × Str)} {row : List Str} {x : Str} : x ∈ lackOf ps row ↔ ∃ y, (y, x) ∈ ps ∧ y ∉ row := by
  unfold lackOf
  rw [List.mem_map]
  constructor
  · rintro ⟨p, hp, rfl⟩
    obtain ⟨h1, h2⟩ := List.mem_filter.mp hp
    exact ⟨p.1, h1, of_decide_eq_true h2⟩
  · rintro ⟨y, h1, h2⟩
    exact ⟨(y, x), List.mem_filter.mpr ⟨h1, decide_eq_true h2⟩, rfl⟩
section
variable {P : Program} {w : World} {K : PySem.W.Frag} {mg : Str → Option Value} {base : Heap}
theorem scNexts : FnScope ["hands", "web", "head", "lacking", "pair", "hand"] ["hands", "web", "head"] (defScope sNexts) := ⟨rfl, rfl, rfl, by decide +kernel, rfl, by decide +kernel, by decide +kernel⟩
def spNexts : Sp := fun vs H Q _ => ∃ (a b r : Addr) (hs row : List Str) (us : List V) (ps : List (Str × Str)), vs = [.ref a, .ref b, .ref r] ∧ H a = some (.lst (hs.map V.str)) ∧ H b = some (.lst us) ∧ PrsV H us ps ∧ Rd H r (.tup (row.map V.str)) ∧ hs.length ≤ 60 ∧ ps.length ≤ 100 ∧
  ∀ (q : Addr) (ys : List Str) (H' : Hp), Same H H' → ys.Perm hs → H' q = some (.lst ((nextOf ps row ys).map V.str)) → Q (.ref q) H'
theorem ok_nexts {f : Addr} {fd : FuncData} (F : Fun K "_law_nexts" "_law_nexts" sNexts f fd) (B : Blt2 mg) : FnOk P w K mg base CX0 1 f fd ["hands", "web", "head"] spNexts := by
  refine F.ok scNexts (fun vs H Q E h => ?_) (fun cdv A outer s H vs Q E hr h => ?_)
  · obtain ⟨a, b, r, hs, row, us, ps, rfl, _⟩ := h
    rfl
  · obtain ⟨a, b, r, hs, row, us, ps, rfl, ha, hb, hps, hrr, hl, hl2, k⟩ := h
    have nd := scNexts.nd
    have lu := hps.len
    refine ⟨_, pss_cons (ps_set (i := 3) nd rfl (.inr rfl) (pe_lc (own := [("pair", 4)]) (g := gName 4) (tt := tTest (tOp (rIn K true) (tOp (rIxT K) (tVar 4) (tC (.int 0))) (tVar 2))) (te := tOp (rIxT K) (tVar 4) (tC (.int 1))) rfl nd (pi_list (pv 1))
          (blkOk_by (N := ["hands", "web", "head", "lacking", "pair", "hand"]) (sc := defScope sNexts) (by decide +kernel)) (fun _ _ _ _ _ => pg_name (i := 4) nd rfl (Or.inl rfl))
          (fun _ _ _ _ _ => pts_one (pt_cmpR (r := rIn K true) op_notIn_seq (pe_ix (r := rIxT K) ix_tup (pv 4) pe_int (fun _ _ => rfl)) (pv 2) (by rfl)))
          (fun _ _ _ _ _ => pe_ix (r := rIxT K) ix_tup (pv 4) pe_int (fun _ _ => rfl))))
      (pss_one (ps_ret (pe_lc (own := [("hand", 5)]) (g := gName 5) (tt := tAnd (tTest (tOp (rIn K true) (tVar 5) (tVar 2))) (tTest (tOp (rIn K true) (tVar 5) (tVar 3)))) (te := tVar 5) rfl nd (pi_list (pe_callB cr_sortedTS (by rfl) B.sorted (by decide +kernel) (pa_cons (pv 0) pa_nil)))
          (blkOk_by (N := ["hands", "web", "head", "lacking", "pair", "hand"]) (sc := defScope sNexts) (by decide +kernel)) (fun _ _ _ _ _ => pg_name (i := 5) nd rfl (Or.inl rfl))
          (fun _ _ _ _ _ => pts_one (PW.pt (pw_and (pt_cmpR (r := rIn K true) op_notIn_seq (pv 5) (pv 2) (by rfl)) (pw_and1 (pt_cmpR (r := rIn K true) op_notIn_seq (pv 5) (pv 3) (by rfl))))))
          (fun _ _ _ _ _ => pv 5)))), ?_⟩
    refine ⟨_, rfl, b, rfl, ⟨_, SqL.of hb⟩, fun D0 hD0 => ?_⟩
    refine lc_list (K := K) (a := b) (xs := us) (fun i H2 => Same H H2 ∧ H2 D0 = some (.lst ((lackOf (ps.take i) row).map V.str))) ⟨same_new hD0, upd_same⟩ (fun i H2 _ q => SqL.of (q.1 _ _ hb)) ?_ ?_
    · rintro i x H2 hx ⟨s2, e2⟩
      obtain ⟨p, hp, vp⟩ := hps.get hx
      obtain ⟨T, rfl, hT⟩ := vp.same s2
      have et : ps.take (i + 1) = ps.take i ++ [p] := by rw [List.take_succ, hp]; rfl
      have hil := (List.getElem?_eq_some_iff.mp hx).1
      refine ⟨rfl, _, rfl, T, _, (0 : Nat), .str p.1, rfl, rfl, .inl (.inl hT), atI_nat rfl, _, rfl, r, _, rfl, .inr (.inl (rd_same s2 hrr)), rfl, flat_strs row, _, rfl, ?_⟩
      rw [if_pos rfl, inV_txts]
      have split : lackOf (ps.take (i + 1)) row = lackOf (ps.take i) row ++ (if p.1 ∈ row then [] else [p.2]) := by
        rw [et]
        unfold lackOf
        rw [List.filter_append, List.map_append, List.filter_cons]
        by_cases c : p.1 ∈ row
        · rw [if_neg (by rw [decide_eq_false (fun z => z c)]; exact Bool.false_ne_true), if_pos c]; rfl
        · rw [if_pos (decide_eq_true c), if_neg c]; rfl
      rw [split]
      by_cases c : p.1 ∈ row
      · rw [decide_eq_true c, if_pos c, List.append_nil]
        exact iteF ⟨s2, e2⟩
      · rw [decide_eq_false c, if_neg c]
        refine iteT ⟨_, rfl, T, _, (1 : Nat), .str p.2, rfl, rfl, .inl (.inl hT), atI_nat rfl, _, e2, ?_, same_mut s2 hD0, ?_⟩
        · rw [List.length_map]
          unfold lackOf
          rw [List.length_map]
          exact small1000 (Nat.le_trans (List.length_filter_le _ _) (by rw [List.length_take]; omega))
        · rw [upd_same, List.map_append]
          rfl
    · rintro H2 ⟨s2, e2⟩
      rw [lu, List.take_length] at e2
      refine ⟨_, rfl, a, hs, rfl, .inl (SqL.of (s2 _ _ ha)), by omega, fun ys q py sy hq => ⟨q, rfl, ⟨_, SqL.of upd_same⟩, fun D1 hD1 => ?_⟩⟩
      have sq : Same H2 (upd H2 q (.lst (ys.map V.str))) := same_new hq
      have eq : (upd H2 q (.lst (ys.map V.str))) q = some (.lst (ys.map V.str)) := upd_same
      generalize upd H2 q (.lst (ys.map V.str)) = H3 at sq eq hD1 ⊢
      have s3 := s2.trans sq
      have hlk : (lackOf ps row).length ≤ 100 := by
        unfold lackOf
        rw [List.length_map]
        exact Nat.le_trans (List.length_filter_le _ _) hl2
      refine lc_list (K := K) (a := q) (xs := ys.map V.str) (fun i H4 => Same H3 H4 ∧ H4 D1 = some (.lst ((nextOf ps row (ys.take i)).map V.str))) ⟨same_new hD1, upd_same⟩ (fun i H4 _ z => SqL.of (z.1 _ _ eq)) ?_ ?_
      · rintro i v H4 hv ⟨s4, e4⟩
        obtain ⟨x, hx, rfl, _⟩ := str_at hv
        have et : ys.take (i + 1) = ys.take i ++ [x] := by rw [List.take_succ, hx]; rfl
        have lys := py.length_eq
        refine ⟨rfl, _, rfl, _, rfl, r, _, rfl, .inr (.inl (rd_same (s3.trans s4) hrr)), rfl, flat_strs row, _, rfl, ?_⟩
        rw [if_pos rfl, inV_txts]
        have no : ¬ (x ∉ row ∧ x ∉ lackOf ps row) → Same H3 H4 ∧ H4 D1 = some (.lst ((nextOf ps row (ys.take (i + 1))).map V.str)) := fun c => by
          rw [et]
          unfold nextOf
          rw [List.filter_append, List.filter_cons, if_neg (by rw [decide_eq_false c]; exact Bool.false_ne_true)]
          exact ⟨s4, by rw [e4]; unfold nextOf; simp⟩
        by_cases c : x ∈ row
        · rw [decide_eq_true c]
          exact iteF (iteF (no fun z => z.1 c))
        · rw [decide_eq_false c]
          refine iteT ⟨_, rfl, _, rfl, D0, _, rfl, .inl (SqL.of ((sq.trans s4) _ _ e2)), rfl, flat_strs _, _, rfl, ?_⟩
          rw [if_pos rfl, inV_txts]
          by_cases c2 : x ∈ lackOf ps row
          · rw [decide_eq_true c2]
            exact iteF (no fun z => z.2 c2)
          · rw [decide_eq_false c2]
            refine iteT ⟨_, rfl, _, e4, ?_, same_mut s4 hD1, ?_⟩
            · rw [List.length_map]
              unfold nextOf
              exact small1000 (Nat.le_trans (List.length_filter_le _ _) (by rw [List.length_take]; omega))
            · rw [upd_same, et]
              unfold nextOf
              rw [List.filter_append, List.filter_cons, if_pos (decide_eq_true ⟨c, c2⟩), List.map_append]
              rfl
      · rintro H4 ⟨s4, e4⟩
        rw [List.length_map, List.take_length] at e4
        exact k D1 ys H4 (s3.trans s4) py e4
end
end Ah
set_option Elab.async false
set_option linter.all false
set_option maxRecDepth 100000
set_option maxHeartbeats 4000000
/-! sorted(xs), xs a list of tuples, the first of them empty -/
namespace PySem.W
open PySem PySem.Calls PySem.SeqAt PyProof.Rows
section
variable {prog : Program} {w : World} {A : Around} {s : Shared} {E : Value → Shared → Prop}
theorem ah_tuple_lt {Q : Value → Shared → Prop} {l b : Addr} {items items2 : Array Value} {e r : Nat → Bool} (hl : s.heap.IsTuple l items) (hb : s.heap.IsTuple b items2)
    (he : ∀ j (h1 : j < items.size) (h2 : j < items2.size), EqAt A.in1 s items[j] items2[j] (e j)) (hr : ∀ j (h1 : j < items.size) (h2 : j < items2.size), e j = false → RcLt A.in1 s items[j] items2[j] (r j))
    (h : Q (.bool (firstLt e r (decide (items.size < items2.size)) (List.range (min items.size items2.size)))) s) : wpAny (model prog w) A (call (.builtin "tuple.__lt__") [.ref l, .ref b]) Q E s := by
  obtain ⟨⟨cls, dd, data, sl⟩, ho, hc, n, hd⟩ := id hl
  obtain ⟨⟨cls2, dd2, data2, sl2⟩, ho2, hc2, n2, hd2⟩ := id hb
  simp only at hc hd hc2 hd2
  subst hc hd hc2 hd2
  exact call_meets F.slot_tuple_lt ⟨_, ho, rfl⟩ F.entry_tuple_lt (F.args_tuple_lt_2 _ _) (tuple_ltAt l b items items2 n n2 dd dd2 sl sl2 e r) ⟨ho, ho2, he, hr, h⟩
theorem ah_oneLt {xs ys : List PyData} {a b : Value} {as bs : List Addr} {Q : Bool → Shared → Prop} (ra : Reads s.heap a (.tuple xs) as) (rb : Reads s.heap b (.tuple ys) bs) (h : alike (.tuple xs) (.tuple ys) = true)
    (hu : A.units + min (PyData.tuple xs).depth (PyData.tuple ys).depth < cLine) (hq : Q (dataLt (.tuple xs) (.tuple ys)) s) : wpAny (model prog w) A (oneLt' true a b) Q E s := by
  have hal : alikeAll xs ys = true := by simpa [alike] using h
  cases ra with
  | @tuple l o vs n _ as₁ h1 h2 h3 h4 =>
    cases rb with
    | @tuple l' o' vs' n' _ bs₁ k1 k2 k3 k4 =>
      have n1 : vs.size = xs.length := by simpa using ReadsAll.length _ _ _ h4
      have n2 : vs'.size = ys.length := by simpa using ReadsAll.length _ _ _ k4
      rw [dataLt_tuple, ← firstLt_toks xs ys hal, ← n1, ← n2] at hq
      rw [oneLt'_eq]
      simp only [if_true]
      refine wpAny_bind (wpAny_cRoomFor (room_here hu) ?_)
      refine wpAny_bind (wpAny_callSpecialIfBound?_slot (T := "tuple") ⟨_, h1, h2⟩ F.slot_tuple_lt (ah_tuple_lt (e := pairEq xs ys) (r := fun j => dataLt (xs.getD j .none) (ys.getD j .none)) ⟨_, h1, h2, _, h3⟩ ⟨_, k1, k2, _, k3⟩ (fun j j1 j2 => ?_) (fun j j1 j2 hj => ?_) ?_))
      · have := eqAt_alikeAll xs ys A.in1 s vs.toList vs'.toList _ _ h4 k4 hal (room_in hu) j (by simpa using j1) (by simpa using j2)
        simpa using this
      · have := rcLt_alikeAll xs ys A.in1 s vs.toList vs'.toList _ _ h4 k4 hal (room_in hu) j (by simpa using j1) (by simpa using j2) hj
        simpa using this
      · exact wpAny_truthy_bool hq
/-- the firsts of tuples -/
theorem ah_firsts {M : Model} : ∀ (vs : List Value) (ds : List PyData) {Q : List (Option Value) → Shared → Prop}, EachIs (fun v d => ∃ as, Reads s.heap v d as) vs ds → (∀ d ∈ ds, ∃ xs, d = .tuple xs) →
    (∀ fs : List (Option Value), fs.length = ds.length → (ds[0]? = some (.tuple []) → fs[0]? = some none) → Q fs s) → wpAny M A (vs.mapM firstOfTuple') Q E s
  | [], _, _, .nil, _, h => by
    rw [List.mapM_nil]
    exact wpAny_pure (h [] rfl fun z => by cases z)
  | v :: vs, d :: ds, Q, .cons ⟨as, r⟩ t, ht, h => by
    obtain ⟨xs, rfl⟩ := ht d (List.mem_cons_self ..)
    cases r with
    | @tuple a o its n _ as₁ h1 h2 h3 h4 =>
      rw [List.mapM_cons]
      refine wpAny_bind ?_
      rw [kas_first_eq]
      refine wpAny_bind (Looks.here (show Looks M s.heap (typeOf (.ref a)) o.cls from (Looks.ld h1).andThen .now) ?_)
      rw [h2, if_neg (by first | decide | simp)]
      refine wpAny_bind (listItems_at h1 h3 (wpAny_pure ?_))
      refine wpAny_bind (ah_firsts vs ds (Q := fun bs s' => wpAny M A (pure (its[0]? :: bs)) Q E s') t (fun d hd => ht d (List.mem_cons_of_mem _ hd)) fun fs hl _ => ?_)
      refine wpAny_pure (h _ (by rw [List.length_cons, List.length_cons, hl]) fun e => ?_)
      have ex : xs = [] := by
        have e' : some (PyData.tuple xs) = some (PyData.tuple []) := e
        injection e' with e'
        injection e'
      subst ex
      have n1 : its.size = 0 := by simpa using ReadsAll.length _ _ _ h4
      show some (its[0]?) = some none
      rw [Array.getElem?_eq_none (by omega)]
theorem ah_kind {M : Model} {vs : List Value} {ds : List PyData} {Q : SortKind → Shared → Prop} (e : EachIs (fun v d => ∃ as, Reads s.heap v d as) vs ds) (ht : ∀ d ∈ ds, ∃ xs, d = .tuple xs) (h0 : ds[0]? = some (.tuple [])) (h : Q oneType' s) :
    wpAny M A (keyKind' vs.toArray) Q E s := by
  rw [kat_kind_eq, List.mapM_toArray, map_eq_pure_bind]
  refine wpAny_bind (wpAny_bind (ah_firsts vs ds e ht fun fs hl hf => wpAny_pure ?_))
  have hf0 := hf h0
  obtain ⟨fr, rfl⟩ : ∃ fr, fs = none :: fr := by
    match fs, hf0 with
    | f :: fr, z =>
      have : some f = some none := z
      exact ⟨fr, by rw [Option.some.inj this]⟩
  rw [if_neg (by simp), if_neg (by simp)]
  rw [oneTypeOnly'_eq, List.mapM_toArray, map_eq_pure_bind]
  have hT : ∀ v ∈ vs, Looks M s.heap (typeOf v) (.type "tuple") := fun v hv => by
    obtain ⟨d, hd, as, r⟩ := e.left v hv
    obtain ⟨xs, rfl⟩ := ht d hd
    exact looks_reads r
  obtain ⟨v₁, vr, rfl⟩ : ∃ v₁ vr, vs = v₁ :: vr := by
    cases e with
    | nil => cases h0
    | cons _ _ => exact ⟨_, _, rfl⟩
  refine wpAny_bind (wpAny_bind (wpAny_bind (kas_mapM (r := Value.type "tuple") _ (fun v hv Q' hq => (hT v hv).here hq) (wpAny_pure ?_))))
  have hall : ((List.map (fun _ => Value.type "tuple") (v₁ :: vr)).toArray.all fun x => x == Value.type "tuple") = true := by
    simp only [List.all_toArray, List.all_map, List.all_eq_true]
    intro _ _
    exact beq_self_eq_true _
  have hz : (List.map (fun _ => Value.type "tuple") (v₁ :: vr)).toArray[0]? = some (Value.type "tuple") := by simp
  rw [hz]
  simp only [hall, if_true]
  exact wpAny_pure (wpAny_pure h)
theorem ah_sorts {vs : List Value} {ds : List PyData} (e : EachIs (fun v d => ∃ as, Reads s.heap v d as) vs ds) (hal : AllAlike ds) (ht : ∀ d ∈ ds, ∃ xs, d = .tuple xs) (h0 : ds[0]? = some (.tuple [])) (hu : ∀ d, d ∈ ds → A.units + d.depth < cLine) : SortsAt prog w A s (dataKind s.heap ds) vs := by
  refine ⟨fun v hv => ?_, oneType', ?_, fun _ E Q hq => ah_kind e ht h0 hq⟩
  · obtain ⟨d, hd, as, r⟩ := e.left v hv
    exact ⟨_, dataKind_some hal hd r⟩
  · intro E x y a b Q ha hb hq
    obtain ⟨d, as, hd, ra, rfl⟩ := dataKind_inv ha
    obtain ⟨d', as', hd', rb, rfl⟩ := dataKind_inv hb
    rw [keyLt'_oneType]
    obtain ⟨xs, rfl⟩ := ht d hd
    obtain ⟨ys, rfl⟩ := ht d' hd'
    exact ah_oneLt ra rb (hal _ hd _ hd') (Nat.lt_of_le_of_lt (Nat.add_le_add_left (Nat.min_le_left _ _) _) (hu _ hd)) hq
end
end PySem.W
namespace Ah
open PySem PySem.Spec PyProof.Rows L2
open PySem.W (EachIs AllAlike Sortable dataLe)
def rSortedE (K : PySem.W.Frag) : List V → Hp → VK → Prop := fun vs H Q => ∃ (a : Addr) (xs : List V) (ds : List PyData), vs = [V.ref a] ∧ SqL K H a xs ∧ DpAll K H xs ds ∧ AllAlike ds ∧ (∀ d ∈ ds, ∃ ys, d = .tuple ys) ∧ ds[0]? = some (.tuple []) ∧ (∀ d ∈ ds, d.depth ≤ 60) ∧
  ∀ (zs : List (V × PyData)) (p : Addr), zs.Perm (xs.zip ds) → zs.map (·.2) = sortD ds → H p = none → Q (.ref p) (upd H p (.lst (zs.map (·.1))))
section
variable {X : Cx}
theorem cr_sortedE (hu : X.A.units + 64 < cLine) : CallR X (.builtin "sorted") (rSortedE X.K) := by
  intro pins s σ H vs us Q I r h
  obtain ⟨a, xs, ds, rfl, hs, hd, hal, htup, h0, hdep, q⟩ := h
  obtain ⟨its, rv, hl, hz⟩ := I.list hs
  rw [Vals.ref1 r]
  obtain ⟨z1, z2, z3⟩ := dpAll_zip2 hd
  have e := each_of rv hd
  have er : EachIs (fun (v : Value) (b : V × PyData) => ∃ as, Reads s.heap v b.2 as) its (xs.zip ds) := e.mono fun v b ⟨r1, r2⟩ => Dp.reads I b.2 b.1 v r2 r1
  have hlen : ds.length = xs.length := by
    have := congrArg List.length z2
    rw [List.length_map, z3] at this
    exact this
  have hal' : AllAlike ((xs.zip ds).map fun b => b.2) := by rw [z1]; exact hal
  have er' : EachIs (fun (v : Value) (b : V × PyData) => ∃ as, Reads (PySem.W.sortingHeap (PySem.W.copyHeap s.heap its) (s.heap.objs.size + 1) its) v b.2 as) its (xs.zip ds) := er.mono fun _ _ ⟨as, r⟩ => ⟨as, PyProof.Rows.Reads.keeps (fun _ _ => PySem.W.sorting_copy_old) r⟩
  have eds := PySem.W.each_map (R := fun v d => ∃ as, Reads (PySem.W.sortingHeap (PySem.W.copyHeap s.heap its) (s.heap.objs.size + 1) its) v d as) (fun b : V × PyData => b.2) er'
  rw [z1] at eds
  have lits : its.length = (xs.zip ds).length := e.length
  refine PySem.W.sorted_vals (κ := PySem.W.dataKind (PySem.W.sortingHeap (PySem.W.copyHeap s.heap its) (s.heap.objs.size + 1) its) ds) hl.isList (PySem.W.ah_sorts (s := { s with heap := PySem.W.sortingHeap (PySem.W.copyHeap s.heap its) (s.heap.objs.size + 1) its }) eds hal htup h0 fun d hd => ?_) (by rw [lits, z3, hlen]; exact hz) ?_
  · have := hdep d hd
    have h2 : X.A.in1.in1.units = X.A.units + 2 := rfl
    omega
  · have eo := PySem.W.sortVals_data (enc := fun b : V × PyData => b.2) (R := fun (v : Value) (b : V × PyData) => RelV b.1 v ∧ Dp X.K H b.1 b.2) false e er' hal'
    rw [z1] at eo
    generalize PySem.W.sortVals (PySem.W.dataKind (PySem.W.sortingHeap (PySem.W.copyHeap s.heap its) (s.heap.objs.size + 1) its) ds) false its its = out at eo ⊢
    obtain ⟨ep, he'⟩ := PyProof.Rows.sortedAll_at s.heap its out.toArray
    obtain ⟨v1, v2⟩ := each_vals eo
    have pm : ((xs.zip ds).mergeSort (dataLe false fun b : V × PyData => b.2)).Perm (xs.zip ds) := List.mergeSort_perm _ _
    have p1 : (((xs.zip ds).mergeSort (dataLe false fun b : V × PyData => b.2)).map (·.1)).Perm xs := by
      have := pm.map (·.1)
      rw [z2] at this
      exact this
    have p2 : ((xs.zip ds).mergeSort (dataLe false fun b : V × PyData => b.2)).map (·.2) = sortD ds := by
      have := PySem.W.sort_maps (r := dataLe false fun b : V × PyData => b.2) (s := dataLe false fun d : PyData => d) (fun b : V × PyData => b.2) (l := xs.zip ds) (fun a _ b _ => rfl)
      rw [z1] at this
      exact this
    refine ⟨.ref _, upd H (s.heap.objs.size + 1) (.lst _), I.laid (t' := s.toks) (fun _ _ => PyProof.Rows.sortedAll_old) (Nat.le_succ _) ⟨?_, out, ep, v1, he'⟩, rfl, q _ _ pm p2 (I.hok.fresh (Nat.le_succ _))⟩
    rw [p1.length_eq]
    exact hz
end
end Ah
set_option Elab.async false
set_option linter.all false
set_option maxRecDepth 100000
set_option maxHeartbeats 4000000
/-! sorted(xs, key=len, reverse=True), xs a list of tuples -/
namespace Ah
open PySem PySem.Spec PyProof.Rows L2
open PySem.W (EachIs AllAlike Sortable dataLe)
def lenD : PyData → Nat
  | .tuple ys => ys.length
  | _ => 0
def rSortLen (K : PySem.W.Frag) : List V → Hp → VK → Prop := fun vs H Q => ∃ (a : Addr) (xs : List V) (ds : List PyData), vs = [V.ref a] ∧ SqL K H a xs ∧ DpAll K H xs ds ∧ (∀ d ∈ ds, ∃ ys, d = .tuple ys ∧ ys.length ≤ 1000) ∧
  ∀ (zs : List (V × PyData)) (p : Addr), zs.Perm (xs.zip ds) → zs.Pairwise (fun a b => lenD b.2 ≤ lenD a.2) → H p = none → Q (.ref p) (upd H p (.lst (zs.map (·.1))))
theorem dataGe_len : dataLe true (fun b : V × PyData => PyData.int ((lenD b.2 : Nat) : Int)) = fun a b => decide (((lenD b.2 : Nat) : Int) ≤ ((lenD a.2 : Nat) : Int)) := PySem.W.dataGe_int fun b : V × PyData => ((lenD b.2 : Nat) : Int)
section
variable {X : Cx}
theorem sortLen_run (hu : X.A.units + 64 < cLine) {pins : List (Addr × Obj)} {s : Shared} {σ : L2.St} {H : Hp} {vs : List V} {us : List Value} {Q : VK} (I : Inv X pins σ H s) (r : Vals vs us) (h : rSortLen X.K vs H Q) :
    wpAny (model X.prog X.w) X.A (call (.builtin "sorted") us [(Str.ofString "key", .builtin "len"), (Str.ofString "reverse", .bool true)]) (EP X pins σ Q) X.xe s := by
  obtain ⟨a, xs, ds, rfl, hs, hd, htup, q⟩ := h
  obtain ⟨its, rv, hl, hz⟩ := I.list hs
  rw [Vals.ref1 r]
  obtain ⟨z1, z2, z3⟩ := dpAll_zip2 hd
  have e := each_of rv hd
  have hlen : ds.length = xs.length := by
    have := congrArg List.length z2
    rw [List.length_map, z3] at this
    exact this
  refine PySem.W.sorted_key_data (b := true) (fun b : V × PyData => PyData.int ((lenD b.2 : Nat) : Int)) hl.isList e ?_ ?_ (by rw [z3, hlen]; exact hz) (fun b hb => ?_) (ksk_s2 _ _ _) (fun _ => ksk_l2 _ _ _) (fun x => ksk_t5 "len" x true) (fun v b hR hb hp tk kp => ?_) fun out c h' tk kp _ at' _ eo => ?_
  · exact AllAlike.of fun b b' => by simp [PySem.W.alike]
  · exact Sortable.others fun b => ⟨fun z => (nomatch z), fun xs z => (nomatch z)⟩
  · have h2 : X.A.units + 2 + (PyData.int ((lenD b.2 : Nat) : Int)).depth = X.A.units + 2 := by simp [PyData.depth]
    rw [h2]
    omega
  · have hm : b.2 ∈ ds := by
      rw [← z1]
      exact List.mem_map.mpr ⟨b, hb, rfl⟩
    obtain ⟨ys, ey, ly⟩ := htup _ hm
    obtain ⟨as, rd⟩ := Dp.reads I b.2 b.1 v hR.2 hR.1
    have rd' := PyProof.Rows.Reads.keeps kp rd
    rw [ey] at rd'
    cases rd' with
    | @tuple l o ws n _ _ h1 h2 h3 h4 =>
      have n1 : ws.size = ys.length := by simpa using PySem.SeqAt.ReadsAll.length _ _ _ h4
      have el : lenD b.2 = ws.size := by rw [ey, n1]; rfl
      refine len_tuple (s := { s with heap := hp, toks := tk }) ⟨o, h1, h2, n, h3⟩ (by omega) ?_
      refine ⟨hp, tk + 1 + 1, rfl, fun _ _ z => z, ?_⟩
      rw [el]
      exact .int _ _
  · obtain ⟨v1, v2⟩ := each_vals eo
    have pm : ((xs.zip ds).mergeSort (dataLe true fun b : V × PyData => PyData.int ((lenD b.2 : Nat) : Int))).Perm (xs.zip ds) := List.mergeSort_perm _ _
    have p1 : (((xs.zip ds).mergeSort (dataLe true fun b : V × PyData => PyData.int ((lenD b.2 : Nat) : Int))).map (·.1)).Perm xs := by
      have := pm.map (·.1)
      rw [z2] at this
      exact this
    refine ⟨.ref _, upd H (s.heap.objs.size + 1) (.lst _), I.laid (t' := tk) kp (Nat.le_succ _) ⟨?_, out, c, v1, at'⟩, rfl, q _ _ pm ?_ (I.hok.fresh (Nat.le_succ _))⟩
    · rw [p1.length_eq]
      exact hz
    · rw [dataGe_len]
      have := List.pairwise_mergeSort (le := fun a b : V × PyData => decide (((lenD b.2 : Nat) : Int) ≤ ((lenD a.2 : Nat) : Int))) (fun a b c h1 h2 => by
        have := of_decide_eq_true h1
        have := of_decide_eq_true h2
        exact decide_eq_true (by omega)) (fun a b => by
        rw [Bool.or_eq_true, decide_eq_true_iff, decide_eq_true_iff]
        omega) (xs.zip ds)
      exact this.imp fun h => by
        have := of_decide_eq_true h
        omega
def tSortLen (K : PySem.W.Frag) (t : TA) : TE := fun σ H Q => t σ H fun vs H1 => rSortLen K vs H1 Q
theorem pe_sortLen {e : Expr} {t : TA} {j : Nat} {p p2 p3 k1 k2 pos : Pos} (hu : X.A.units + 64 < cLine) (hg : Gl X "sorted") (hm : X.mg "sorted" = none) (hg2 : Gl X "len") (hm2 : X.mg "len" = none) (ha : PA X [e] t)
    (he : backTo pos (starEach (e :: []) X.env) = (false, eval e X.env) :: backTo pos (starEach [] X.env) := by rfl) (hpl : (backTo pos (starEach (e :: []) X.env)).any (·.1) = false := by rfl) :
    PE X (.Call (.Name "sorted" p) [e] [⟨some "key", .Name "len" p2, k1⟩, ⟨some "reverse", .Constant (.bool true) j p3, k2⟩] pos) (tSortLen X.K t) := by
  refine ⟨fun pins s σ H Q I h => ?_⟩
  refine wpAny_Call_Name_kw (ld_blt I hg hm (u := .builtin "sorted") (by decide +kernel) ?_ (by decide) (by decide))
  refine PyProof.Rows.callWith_kw (thn (ha.run pos pins s σ H _ I h) fun us s1 ⟨vs, H1, I1, r1, q1⟩ => ?_) he hpl (by rfl) (by rfl)
  show wpAny _ _ (evalAll [(do let v ← eval (.Name "len" p2) X.env; standAt pos; pure v), (do let v ← eval (.Constant (.bool true) j p3) X.env; standAt pos; pure v)]) _ _ s1
  refine wpAny_evalAll_cons (wpAny_bind (ld_blt I1 hg2 hm2 (u := .builtin "len") (by decide +kernel) (wpAny_bind (wpAny_standAt (wpAny_pure ?_))) (by decide) (by decide)))
  refine wpAny_evalAll_cons (wpAny_bind (thn ((pe_bl (X := X) (b := true) (j := j) (pos := p3)).run pins s1 σ H1 (fun v H2 => v = .bl true ∧ H2 = H1) I1 ⟨rfl, rfl⟩) fun u s2 ⟨x, H2, I2, r2, ex, eh⟩ => wpAny_bind (wpAny_standAt (wpAny_pure ?_))))
  subst ex eh
  cases r2
  refine wpAny_evalAll_nil ?_
  exact sortLen_run hu I2 r1 q1
end
end Ah
set_option Elab.async false
set_option linter.all false
set_option maxRecDepth 100000
set_option maxHeartbeats 4000000
/-! dict(list of pairs whose keys are tuples), d.update(d) of such dicts -/
namespace Ah
open PySem PySem.Spec PyProof.Rows L2
def mergeT (kvs more : List (List Key × V)) : List (List Key × V) := more.foldl (fun acc kv => putK acc kv.1 kv.2) kvs
theorem mergeT_len (kvs more : List (List Key × V)) : (mergeT kvs more).length ≤ kvs.length + more.length := by
  induction more generalizing kvs with
  | nil => exact Nat.le_refl _
  | cons p r ih =>
    have h1 := ih (putK kvs p.1 p.2)
    have h2 := length_putK kvs p.1 p.2
    show (mergeT (putK kvs p.1 p.2) r).length ≤ kvs.length + (r.length + 1)
    omega
theorem kt_merge {H : Hp} : ∀ {more : List (List Key × V)} {ys : List (List Key × Addr × Value)} {kvs : List (List Key × V)} {xs : List (List Key × Addr × Value)}, KT H more ys → KT H kvs xs → KT H (mergeT kvs more) (PySem.storedAllH xs ys)
  | [], [], _, _, .nil, r => r
  | p :: more, y :: ys, kvs, xs, .cons h t, r => by
    obtain ⟨h1, h2, h3⟩ := h
    have := KT.put r p.1 h2 h3
    show KT H (mergeT (putK kvs p.1 p.2) more) (PySem.storedAllH (storedH xs y.1 y.2.1 y.2.2) ys)
    rw [← h1]
    exact kt_merge t this
/-- a list's items, each a pair of a tuple and a value -/
abbrev TrsAt (K : PySem.W.Frag) (H : Hp) : List Addr → List (Addr × List Key × V) → Prop := Paired fun p q => SqT K H p [V.ref q.1, q.2.2] ∧ H q.1 = some (.tup (q.2.1.map kV))
theorem trs_of {X : Cx} {pins : List (Addr × Obj)} {σ : L2.St} {H : Hp} {s : Shared} (I : Inv X pins σ H s) : ∀ {ps : List Addr} {qs : List (Addr × List Key × V)}, TrsAt X.K H ps qs →
    ∃ prs : List (List Key × Addr × Value), KT H (qs.map (·.2)) prs ∧ prs.length = ps.length ∧ ∀ (j : Nat) (q : List Key × Addr × Value), prs[j]? = some q → ∃ b : Addr, ps[j]? = some b ∧ IsTup s.heap b #[.ref q.2.1, q.2.2]
  | _, _, .nil => ⟨[], .nil, rfl, fun j q e => by simp at e⟩
  | _, _, .cons (a := p) (b := kv) h t => by
    obtain ⟨prs, r, hl, hp⟩ := trs_of I t
    obtain ⟨its, rv, ht, _⟩ := I.tuple h.1
    obtain ⟨u, y, ei, ru, ry⟩ := vals2 rv
    subst ei
    cases ru
    refine ⟨(kv.2.1, kv.1, y) :: prs, .cons ⟨rfl, h.2, ry⟩ r, by rw [List.length_cons, List.length_cons, hl], fun j q e => ?_⟩
    cases j with
    | zero =>
      have e' : (kv.2.1, kv.1, y) = q := Option.some.inj e
      subst e'
      exact ⟨p, rfl, ht⟩
    | succ j => exact hp j q (by simpa using e)
theorem trs_len {K : PySem.W.Frag} {H : Hp} {ps : List Addr} {qs : List (Addr × List Key × V)} (h : TrsAt K H ps qs) : ps.length = qs.length := Paired.length h
theorem trs_refs : ∀ {ps : List Addr} {us : List Value}, Vals (ps.map V.ref) us → us = ps.map Value.ref
  | [], _, .nil => rfl
  | _ :: _, _, .cons h t => by
    cases h
    rw [trs_refs t]
    rfl
def rDictPT (K : PySem.W.Frag) : List V → Hp → VK → Prop := fun xs H Q => ∃ (a : Addr) (ps : List Addr) (qs : List (Addr × List Key × V)), xs = [.ref a] ∧ SqL K H a (ps.map V.ref) ∧ TrsAt K H ps qs ∧
  ∀ p, H p = none → Q (.ref p) (upd H p (.dT (mergeT [] (qs.map (·.2)))))
theorem call_dictPT {X : Cx} (hcalm : X.calm = true) (hu : X.A.units + 3 < cLine) : CallR X (.type "dict") (rDictPT X.K) := by
  intro pins s σ H xs us Q I r q
  obtain ⟨a, ps, qs, ex, hq, hp, q⟩ := q
  subst ex
  obtain ⟨u, eu, rx⟩ := vals1 r
  subst eu
  cases rx
  obtain ⟨its, rv, pl, hz⟩ := I.list hq
  have ei := trs_refs rv
  subst ei
  rw [List.length_map] at hz
  obtain ⟨prs, kt, hl, hpr⟩ := trs_of I hp
  obtain ⟨o, n, ho, hc, hd, hdat⟩ := pl
  have ok : PySem.PlainSeq "list" s.heap a (ps.map Value.ref).toArray ∧ PySem.PairItems s.heap (ps.map Value.ref).toArray (fun j => ps.getD j 0) (prs.map fun x => (Value.ref x.2.1, x.2.2)) := by
    refine ⟨⟨o, n, ho, hc, hd, hdat⟩, by simp [hl], fun j k v e => ?_⟩
    rw [List.getElem?_map] at e
    cases hj : prs[j]? with
    | none => rw [hj] at e; cases e
    | some x =>
      rw [hj] at e
      obtain ⟨b, hb, ht⟩ := hpr j x hj
      have e' : (Value.ref x.2.1, x.2.2) = (k, v) := Option.some.inj e
      injection e' with e1 e2
      subst e1 e2
      have eb : ps.getD j 0 = b := by rw [List.getD_eq_getElem?_getD, hb]; rfl
      refine ⟨by simp [hb], ?_⟩
      show PairAt s.heap (ps.getD j 0) _ _
      rw [eb]
      obtain ⟨o', h1, h2, m, h3⟩ := ht
      exact .inl ⟨o', h1, h2, m, h3⟩
  have keys : ∀ x ∈ prs, (tupleKind (mixKind X.prog X.w)).is s.heap x.1 x.2.1 := by
    have all : ∀ {l : List (List Key × V)} {m : List (List Key × Addr × Value)}, KT H l m → ∀ x ∈ m, (tupleKind (mixKind X.prog X.w)).is s.heap x.1 x.2.1 := by
      intro l m q
      induction q with
      | nil => intro x hx; exact nomatch hx
      | @cons p q ps qs hq t ih =>
        intro x hx
        rcases List.mem_cons.mp hx with e | hx
        · subst e
          exact key_of I.hok (by rw [← hq.1]; exact hq.2.1)
        · exact ih x hx
    exact all kt
  have st : (tupleKind (mixKind X.prog X.w)).Stays := tupleKind_stays
  refine PySem.call_dict_pairsH (knd := tupleKind (mixKind X.prog X.w)) (ps := prs) (PySem.PairArg.list a _ _ (prs.map fun x => (Value.ref x.2.1, x.2.2))) (I.ok.hd hcalm) (show X.A.in1.in1.units < cLine from by
    have h2 : X.A.in1.in1.units = X.A.units + 2 := rfl
    omega) ok ⟨by rw [List.length_map], fun i k v e => ?_⟩ (fun h' hk x hx => st.all h' (fun b o _ e => hk b o (Nat.ne_of_lt (Heap.lt_size e)) (fun z => nomatch z) e) _ _ (keys x hx)) (by rw [List.length_map, hl]; exact hz) fun h' tk hd' k => ?_
  · rw [PySem.PairRel, List.getElem?_map] at e
    cases hj : prs[i]? with
    | none => rw [hj] at e; cases e
    | some x =>
      rw [hj] at e
      have e' : (Value.ref x.2.1, x.2.2) = (k, v) := Option.some.inj e
      injection e' with e1 e2
      subst e1 e2
      exact ⟨x.1, x.2.1, rfl, rfl⟩
  · have hm : (s.heap.objs.size == sysModules) = false := beq_eq_false_iff_ne.mpr (Nat.ne_of_gt I.big)
    have hlen : (mergeT [] (qs.map (·.2))).length ≤ sizeLine := by
      refine Nat.le_trans (mergeT_len [] _) ?_
      have := trs_len hp
      rw [List.length_nil, Nat.zero_add, List.length_map]
      omega
    have fresh := I.hok.fresh (Nat.le_refl s.heap.objs.size)
    have kt2 := (kt_merge kt .nil).keeps (H' := upd H s.heap.objs.size (.dT (mergeT [] (qs.map (·.2))))) fun b ys e => (upd_ne (fun z => by rw [z, fresh] at e; cases e)).trans e
    obtain ⟨q0, es, ep, hq0, h2, h3, h4, _, h5⟩ := hd'
    exact ⟨.ref s.heap.objs.size, upd H s.heap.objs.size (.dT (mergeT [] (qs.map (·.2)))), I.laid (t' := tk) (fun b o e => k b o (fun z => nomatch z) e) (Nat.le_refl _) ⟨hlen, hm, _, kt2, q0, es, ep, hq0, h2, h3, h4, h5⟩, rfl, q _ fresh⟩
def rUpdT : V → List V → Hp → VK → Prop := fun x vs H Q => ∃ (d o : Addr) (kvs more : List (List Key × V)), x = .ref d ∧ vs = [.ref o] ∧ H d = some (.dT kvs) ∧ H o = some (.dT more) ∧ d ≠ o ∧ kvs ≠ [] ∧ kvs.length + more.length ≤ sizeLine ∧ Q .non (upd H d (.dT (mergeT kvs more)))
theorem mt_updT {X : Cx} (hu : X.A.units + 1 < cLine) : MtM X "dict.update" rUpdT := by
  intro pins s σ H x vs v us Q I rx rv h
  obtain ⟨d, o, kvs, more, rfl, rfl, hd, ho, hne, hk, hz, q⟩ := h
  cases rx
  obtain ⟨u, rfl, ru⟩ := rv.one
  cases ru
  obtain ⟨z1, m1, xs, kt1, dd1⟩ := dt_of I.hok hd
  obtain ⟨z2, m2, ys, kt2, dd2⟩ := dt_of I.hok ho
  have l1 := Paired.length kt1
  have l2 := Paired.length kt2
  refine PySem.call_update_dictH (knd := tupleKind (mixKind X.prog X.w)) (show X.A.in1.units < cLine from by
    have h2 : X.A.in1.units = X.A.units + 1 := rfl
    omega) hne m2 dd1 dd2 (.inl fun e => by
      rw [e] at l1
      exact hk (List.length_eq_zero_iff.mp l1)) (by omega) fun h' hd' _ hs => ?_
  obtain ⟨q0, es, ep, hq0, h2, h3, h4, _, h5⟩ := hd'
  have kt3 := (kt_merge kt2 kt1).keeps (H' := upd H d (.dT (mergeT kvs more))) fun b ys e => (upd_ne (ne_of e hd fun z => nomatch z)).trans e
  refine ⟨.non, upd H d (.dT (mergeT kvs more)), d_write (t' := s.toks) I (by rw [hd]; exact True.intro) hs ⟨q0, hq0⟩ ⟨Nat.le_trans (mergeT_len _ _) hz, m1, _, kt3, q0, es, ep, hq0, h2, h3, h4, h5⟩, rfl, q⟩
end Ah
set_option Elab.async false
set_option linter.all false
set_option maxRecDepth 100000
set_option maxHeartbeats 4000000
namespace Ah
open PySem
/-! ### paths of pairs; going through them turn by turn -/
def Path (ps : List (Str × Str)) : Nat → Str → Str → Prop
  | 0, a, c => (a, c) ∈ ps
  | n + 1, a, c => ∃ b, (a, b) ∈ ps ∧ Path ps n b c
theorem Path.split {ps : List (Str × Str)} : ∀ {m n : Nat} {a c : Str}, Path ps (m + n + 1) a c → ∃ b, Path ps m a b ∧ Path ps n b c
  | 0, n, a, c, h => by
    rw [show 0 + n + 1 = n + 1 by omega] at h
    exact h
  | m + 1, n, a, c, h => by
    rw [show m + 1 + n + 1 = (m + n + 1) + 1 by omega] at h
    obtain ⟨b, hb, h⟩ := h
    obtain ⟨d, h1, h2⟩ := Path.split h
    exact ⟨d, ⟨b, hb, h1⟩, h2⟩
theorem Path.join {ps : List (Str × Str)} : ∀ {m n : Nat} {a b c : Str}, Path ps m a b → Path ps n b c → Path ps (m + n + 1) a c
  | 0, n, a, b, c, h, k => by
    rw [show 0 + n + 1 = n + 1 by omega]
    exact ⟨b, h, k⟩
  | m + 1, n, a, b, c, ⟨d, h1, h2⟩, k => by
    rw [show m + 1 + n + 1 = (m + n + 1) + 1 by omega]
    exact ⟨d, h1, Path.join h2 k⟩
theorem Path.idx {ps : List (Str × Str)} {row : List Str} (k : KeepR row ps) : ∀ {n : Nat} {a c : Str}, Path ps n a c → a ∈ row ∧ c ∈ row ∧ row.idxOf a + n + 1 ≤ row.idxOf c
  | 0, a, c, h => by
    obtain ⟨h1, h2, h3⟩ := k a c h
    exact ⟨h1, h2, by omega⟩
  | n + 1, a, c, ⟨b, hb, h⟩ => by
    obtain ⟨h1, h2, h3⟩ := k a b hb
    obtain ⟨g1, g2, g3⟩ := Path.idx k h
    exact ⟨h1, g2, by omega⟩
theorem Path.bound {ps : List (Str × Str)} {row : List Str} (k : KeepR row ps) {n : Nat} {a c : Str} (h : Path ps n a c) : n + 2 ≤ row.length := by
  obtain ⟨_, h2, h3⟩ := h.idx k
  have := List.idxOf_lt_length_of_mem h2
  omega
structure Turn (ps held : List (Str × Str)) (t : Nat) : Prop where
  sound : ∀ a c, (a, c) ∈ held → ∃ n, Path ps n a c
  full : ∀ n a c, n < 2 ^ t → Path ps n a c → (a, c) ∈ held
theorem Turn.init {ps held : List (Str × Str)} (e : ∀ p, p ∈ held ↔ p ∈ ps) : Turn ps held 0 :=
  ⟨fun a c h => ⟨0, (e _).mp h⟩, fun n a c hn h => by
    obtain rfl : n = 0 := by omega
    exact (e _).mpr h⟩
theorem Turn.step {ps held held' : List (Str × Str)} {t : Nat} (h : Turn ps held t) (e : ∀ a c, (a, c) ∈ held' ↔ (a, c) ∈ held ∨ ∃ b, (a, b) ∈ held ∧ (b, c) ∈ held) : Turn ps held' (t + 1) := by
  refine ⟨fun a c m => ?_, fun n a c hn p => ?_⟩
  · rcases (e a c).mp m with q | ⟨b, q1, q2⟩
    · exact h.sound a c q
    · obtain ⟨n1, p1⟩ := h.sound _ _ q1
      obtain ⟨n2, p2⟩ := h.sound _ _ q2
      exact ⟨_, p1.join p2⟩
  · rw [Nat.pow_succ] at hn
    by_cases q : n < 2 ^ t
    · exact (e a c).mpr (.inl (h.full n a c q p))
    · have pos : 0 < 2 ^ t := Nat.pow_pos (by decide)
      obtain ⟨j, hj⟩ : ∃ j, n = (2 ^ t - 1) + j + 1 := ⟨n - 2 ^ t, by omega⟩
      rw [hj] at p
      obtain ⟨b, p1, p2⟩ := p.split
      exact (e a c).mpr (.inr ⟨b, h.full _ a b (by omega) p1, h.full _ b c (by omega) p2⟩)
theorem Turn.thru {ps held : List (Str × Str)} {row : List Str} (h : Turn ps held 4) (k : KeepR row ps) (l : row.length ≤ 8) : (∀ x y z, (x, y) ∈ held → (y, z) ∈ held → (x, z) ∈ held) ∧ KeepR row held := by
  refine ⟨fun x y z h1 h2 => ?_, fun x y h1 => ?_⟩
  · obtain ⟨n1, p1⟩ := h.sound _ _ h1
    obtain ⟨n2, p2⟩ := h.sound _ _ h2
    have p := p1.join p2
    have := p.bound k
    exact h.full _ _ _ (by omega) p
  · obtain ⟨n, p⟩ := h.sound _ _ h1
    obtain ⟨g1, g2, g3⟩ := p.idx k
    exact ⟨g1, g2, by omega⟩
/-! ### sorted lists of texts -/
theorem srt_nodup {a : List Str} (h : a.Pairwise sLt) : a.Nodup := List.Pairwise.imp (fun {x y : Str} (q : sLt x y) (e : x = y) => sLt_irr y (by rw [e] at q; exact q)) h
theorem srt_eq : ∀ {a b : List Str}, a.Pairwise sLt → b.Pairwise sLt → (∀ x, x ∈ a ↔ x ∈ b) → a = b
  | [], [], _, _, _ => rfl
  | [], y :: r, _, _, e => nomatch ((e y).mpr (List.mem_cons_self ..))
  | x :: r, [], _, _, e => nomatch ((e x).mp (List.mem_cons_self ..))
  | x :: r, y :: t, h1, h2, e => by
    obtain ⟨a1, a2⟩ := List.pairwise_cons.mp h1
    obtain ⟨b1, b2⟩ := List.pairwise_cons.mp h2
    have exy : x = y := by
      rcases List.mem_cons.mp ((e x).mp (List.mem_cons_self ..)) with q | q
      · exact q
      · rcases List.mem_cons.mp ((e y).mpr (List.mem_cons_self ..)) with z | z
        · exact z.symm
        · exact absurd (sLt_trans (a1 y z) (b1 x q)) (sLt_irr x)
    subst exy
    rw [srt_eq a2 b2 fun z => ?_]
    constructor
    · intro hz
      rcases List.mem_cons.mp ((e z).mp (List.mem_cons_of_mem _ hz)) with q | q
      · subst q
        exact absurd (a1 z hz) (sLt_irr z)
      · exact q
    · intro hz
      rcases List.mem_cons.mp ((e z).mpr (List.mem_cons_of_mem _ hz)) with q | q
      · subst q
        exact absurd (b1 z hz) (sLt_irr z)
      · exact q
theorem srt_sub {m ys : List Str} (hm : m.Pairwise sLt) (hy : ys.Pairwise sLt) (s : ∀ x ∈ m, x ∈ ys) : m.Sublist ys := by
  have e : m = ys.filter fun x => decide (x ∈ m) := srt_eq hm (hy.sublist List.filter_sublist) fun x => by
    rw [List.mem_filter, decide_eq_true_iff]
    exact ⟨fun h => ⟨s x h, h⟩, fun h => h.2⟩
  rw [e]
  exact List.filter_sublist
/-! ### all sets -/
def sbStep (f : List (List Str)) (h : Str) : List (List Str) := f ++ f.map fun m => m ++ [h]
def sbs (l : List Str) : List (List Str) := l.foldl sbStep [[]]
theorem sbs_snoc (l : List Str) (h : Str) : sbs (l ++ [h]) = sbStep (sbs l) h := by
  unfold sbs
  rw [List.foldl_append]
  rfl
theorem sb_mem : ∀ (l : List Str) (f : List (List Str)) (m : List Str), m ∈ l.foldl sbStep f ↔ ∃ a b : List Str, a ∈ f ∧ b.Sublist l ∧ m = a ++ b
  | [], f, m => by
    constructor
    · exact fun h => ⟨m, [], h, List.Sublist.refl _, (List.append_nil m).symm⟩
    · rintro ⟨a, b, ha, hb, rfl⟩
      rw [List.sublist_nil.mp hb, List.append_nil]
      exact ha
  | h :: r, f, m => by
    show m ∈ r.foldl sbStep (sbStep f h) ↔ _
    rw [sb_mem r]
    constructor
    · rintro ⟨a, b, ha, hb, rfl⟩
      rcases List.mem_append.mp ha with q | q
      · exact ⟨a, b, q, hb.cons _, rfl⟩
      · obtain ⟨a0, h0, rfl⟩ := List.mem_map.mp q
        exact ⟨a0, h :: b, h0, hb.cons_cons _, by simp⟩
    · rintro ⟨a, b, ha, hb, rfl⟩
      cases hb with
      | cons _ hb => exact ⟨a, b, List.mem_append_left _ ha, hb, rfl⟩
      | cons_cons _ hb => exact ⟨a ++ [h], _, List.mem_append_right _ (List.mem_map.mpr ⟨a, ha, rfl⟩), hb, by simp⟩
theorem sbs_mem {l m : List Str} : m ∈ sbs l ↔ m.Sublist l := by
  unfold sbs
  rw [sb_mem]
  constructor
  · rintro ⟨a, b, ha, hb, rfl⟩
    rw [List.mem_singleton.mp ha]
    exact hb
  · exact fun h => ⟨[], m, List.mem_singleton.mpr rfl, h, rfl⟩
theorem sb_len : ∀ (l : List Str) (f : List (List Str)), (l.foldl sbStep f).length = f.length * 2 ^ l.length
  | [], f => by simp
  | h :: r, f => by
    show (r.foldl sbStep (sbStep f h)).length = _
    rw [sb_len r, show (sbStep f h).length = f.length * 2 by unfold sbStep; rw [List.length_append, List.length_map]; omega, List.length_cons, Nat.pow_succ, Nat.mul_assoc, Nat.mul_comm 2]
theorem sbs_len (l : List Str) : (sbs l).length = 2 ^ l.length := by
  unfold sbs
  rw [sb_len, List.length_singleton, Nat.one_mul]
theorem sb_first : ∀ (l : List Str) (f : List (List Str)), f[0]? = some [] → (l.foldl sbStep f)[0]? = some []
  | [], f, h => h
  | x :: r, f, h => sb_first r (sbStep f x) (by
    obtain ⟨g, rfl⟩ : ∃ g, f = [] :: g := by
      match f, h with
      | a :: g, h => exact ⟨g, by rw [Option.some.inj h]⟩
    rfl)
theorem sbs_first (l : List Str) : (sbs l)[0]? = some [] := sb_first l [[]] rfl
theorem sbs_bound {l : List Str} (h : l.length ≤ 8) : (sbs l).length ≤ 256 := by
  rw [sbs_len]
  exact Nat.pow_le_pow_right (n := 2) (by decide) h
end Ah
set_option Elab.async false
set_option linter.all false
set_option maxRecDepth 100000
set_option maxHeartbeats 4000000
namespace Ah
open PySem
/-! ### rows in their order -/
def sumN : List Nat → Nat
  | [] => 0
  | a :: r => a + sumN r
theorem sumN_append : ∀ (a b : List Nat), sumN (a ++ b) = sumN a + sumN b
  | [], b => (Nat.zero_add _).symm
  | x :: a, b => by
    show x + sumN (a ++ b) = x + sumN a + sumN b
    rw [sumN_append a b]
    omega
def cnt (nx : List Str → List Str) : Nat → List Str → Nat
  | 0, _ => 1
  | n + 1, m => sumN ((nx m).map fun x => cnt nx n (m ++ [x]))
def pickF (c : Str → Nat) : List Str → Nat → Option (Str × Nat)
  | [], _ => none
  | x :: r, k => if k < c x then some (x, k) else pickF c r (k - c x)
def rowF (nx : List Str → List Str) : Nat → List Str → Nat → List Str
  | 0, _, _ => []
  | n + 1, m, k => match pickF (fun x => cnt nx n (m ++ [x])) (nx m) k with
    | none => []
    | some p => p.1 :: rowF nx n (m ++ [p.1]) p.2
structure Nx (nx : List Str → List Str) (ys : List Str) : Prop where
  same : ∀ m m', (∀ x, x ∈ m ↔ x ∈ m') → nx m = nx m'
  some : ∀ m, m.Nodup → (∀ x ∈ m, x ∈ ys) → m.length < ys.length → nx m ≠ []
  mem : ∀ m x, x ∈ nx m → x ∈ ys ∧ x ∉ m
  few : ∀ m, (nx m).length ≤ 8
structure Lv (ys : List Str) (n : Nat) (m : List Str) : Prop where
  nd : m.Nodup
  sub : ∀ x ∈ m, x ∈ ys
  len : m.length + n = ys.length
theorem Lv.nil {ys : List Str} : Lv ys ys.length [] := ⟨List.nodup_nil, (fun _ h => nomatch h), (by simp)⟩
section
variable {nx : List Str → List Str} {ys : List Str}
theorem Lv.step {n : Nat} {m : List Str} {x : Str} (N : Nx nx ys) (h : Lv ys (n + 1) m) (hx : x ∈ nx m) : Lv ys n (m ++ [x]) := by
  obtain ⟨h1, h2⟩ := N.mem m x hx
  refine ⟨?_, fun y hy => ?_, ?_⟩
  · rw [List.nodup_append]
    exact ⟨h.nd, List.nodup_cons.mpr ⟨List.not_mem_nil, List.nodup_nil⟩, fun a ha b hb e => h2 (by rw [← List.mem_singleton.mp hb, ← e]; exact ha)⟩
  · rcases List.mem_append.mp hy with q | q
    · exact h.sub y q
    · rw [List.mem_singleton.mp q]
      exact h1
  · have := h.len
    rw [List.length_append, List.length_singleton]
    omega
theorem cnt_same (N : Nx nx ys) : ∀ (n : Nat) {m m' : List Str}, (∀ x, x ∈ m ↔ x ∈ m') → cnt nx n m = cnt nx n m'
  | 0, _, _, _ => rfl
  | n + 1, m, m', e => by
    show sumN ((nx m).map fun x => cnt nx n (m ++ [x])) = sumN ((nx m').map fun x => cnt nx n (m' ++ [x]))
    rw [N.same m m' e]
    congr 1
    refine List.map_congr_left fun x _ => cnt_same N n fun y => ?_
    rw [List.mem_append, List.mem_append, e y]
theorem sum_pos : ∀ {l : List Nat}, l ≠ [] → (∀ a ∈ l, 0 < a) → 0 < sumN l
  | [], h, _ => absurd rfl h
  | a :: r, _, h => Nat.add_pos_left (h a (List.mem_cons_self ..)) _
theorem sum_le {b : Nat} : ∀ {l : List Nat}, (∀ a ∈ l, a ≤ b) → sumN l ≤ l.length * b
  | [], _ => by simp [sumN]
  | a :: r, h => by
    have h1 := h a (List.mem_cons_self ..)
    have h2 := sum_le (l := r) fun x hx => h x (List.mem_cons_of_mem _ hx)
    show a + sumN r ≤ (r.length + 1) * b
    rw [Nat.add_mul]
    omega
theorem cnt_pos (N : Nx nx ys) : ∀ (n : Nat) {m : List Str}, Lv ys n m → 0 < cnt nx n m
  | 0, _, _ => Nat.one_pos
  | n + 1, m, h => by
    refine sum_pos (fun e => ?_) fun a ha => ?_
    · have := h.len
      exact N.some m h.nd h.sub (by omega) (List.map_eq_nil_iff.mp e)
    · obtain ⟨x, hx, rfl⟩ := List.mem_map.mp ha
      exact cnt_pos N n (h.step N hx)
theorem cnt_le (N : Nx nx ys) : ∀ (n : Nat) (m : List Str), cnt nx n m ≤ 8 ^ n
  | 0, _ => Nat.le_refl _
  | n + 1, m => by
    have h1 := sum_le (b := 8 ^ n) (l := (nx m).map fun x => cnt nx n (m ++ [x])) fun a ha => by
      obtain ⟨x, _, rfl⟩ := List.mem_map.mp ha
      exact cnt_le N n _
    rw [List.length_map] at h1
    have h2 := Nat.mul_le_mul_right (8 ^ n) (N.few m)
    show sumN ((nx m).map fun x => cnt nx n (m ++ [x])) ≤ 8 ^ (n + 1)
    rw [Nat.pow_succ, Nat.mul_comm]
    omega
/-! picking -/
theorem pick_some {c : Str → Nat} : ∀ {l : List Str} {k : Nat}, k < sumN (l.map c) → ∃ x j, pickF c l k = some (x, j) ∧ j < c x ∧ x ∈ l
  | [], k, h => absurd h (Nat.not_lt_zero _)
  | x :: r, k, h => by
    have h' : k < c x + sumN (r.map c) := h
    show ∃ y j, (if k < c x then some (x, k) else pickF c r (k - c x)) = some (y, j) ∧ _
    by_cases q : k < c x
    · exact ⟨x, k, if_pos q, q, List.mem_cons_self ..⟩
    · obtain ⟨y, j, h1, h2, h3⟩ := pick_some (c := c) (l := r) (k := k - c x) (by omega)
      exact ⟨y, j, by rw [if_neg q]; exact h1, h2, List.mem_cons_of_mem _ h3⟩
theorem pick_first {c : Str → Nat} {x : Str} {r : List Str} (h : 0 < c x) : pickF c (x :: r) 0 = some (x, 0) := if_pos h
theorem pick_last {c : Str → Nat} : ∀ {l : List Str}, l ≠ [] → (∀ x ∈ l, 0 < c x) → ∃ u x, l = u ++ [x] ∧ pickF c l (sumN (l.map c) - 1) = some (x, c x - 1)
  | [], h, _ => absurd rfl h
  | [x], _, h => ⟨[], x, rfl, by
    have := h x (List.mem_cons_self ..)
    have e : sumN ([x].map c) = c x := Nat.add_zero _
    rw [e]
    exact if_pos (by omega)⟩
  | x :: y :: r, _, h => by
    obtain ⟨u, z, e, hp⟩ := pick_last (c := c) (l := y :: r) (List.cons_ne_nil _ _) fun a ha => h a (List.mem_cons_of_mem _ ha)
    refine ⟨x :: u, z, by rw [e]; rfl, ?_⟩
    have hy : 0 < sumN ((y :: r).map c) := sum_pos (fun q => by cases q) fun a ha => by
      obtain ⟨b, hb, rfl⟩ := List.mem_map.mp ha
      exact h b (List.mem_cons_of_mem _ hb)
    have es : sumN ((x :: y :: r).map c) = c x + sumN ((y :: r).map c) := rfl
    show (if _ < c x then _ else pickF c (y :: r) (sumN ((x :: y :: r).map c) - 1 - c x)) = _
    rw [if_neg (by omega), es, show c x + sumN ((y :: r).map c) - 1 - c x = sumN ((y :: r).map c) - 1 by omega]
    exact hp
theorem pick_next {c : Str → Nat} : ∀ {l : List Str} {k : Nat}, (∀ x ∈ l, 0 < c x) → k + 1 < sumN (l.map c) →
    (∃ x j, pickF c l k = some (x, j) ∧ pickF c l (k + 1) = some (x, j + 1) ∧ j + 1 < c x ∧ x ∈ l) ∨
    ∃ u x y v, l = u ++ x :: y :: v ∧ pickF c l k = some (x, c x - 1) ∧ pickF c l (k + 1) = some (y, 0)
  | [], k, _, h => absurd h (Nat.not_lt_zero _)
  | x :: r, k, hp, h => by
    have h' : k + 1 < c x + sumN (r.map c) := h
    by_cases q : k + 1 < c x
    · exact .inl ⟨x, k, if_pos (by omega), if_pos q, q, List.mem_cons_self ..⟩
    · by_cases q2 : k < c x
      · refine .inr ?_
        have e : k = c x - 1 := by omega
        cases r with
        | nil =>
          have : sumN (([] : List Str).map c) = 0 := rfl
          omega
        | cons y v =>
          refine ⟨[], x, y, v, rfl, ?_, ?_⟩
          · rw [e]
            exact if_pos (by omega)
          · show (if k + 1 < c x then _ else pickF c (y :: v) (k + 1 - c x)) = _
            rw [if_neg q, show k + 1 - c x = 0 by omega]
            exact pick_first (hp y (by simp))
      · rcases pick_next (c := c) (l := r) (k := k - c x) (fun a ha => hp a (List.mem_cons_of_mem _ ha)) (by omega) with ⟨z, j, h1, h2, h3, h4⟩ | ⟨u, z, y, v, e, h1, h2⟩
        · refine .inl ⟨z, j, ?_, ?_, h3, List.mem_cons_of_mem _ h4⟩
          · show (if k < c x then _ else pickF c r (k - c x)) = _
            rw [if_neg q2]
            exact h1
          · show (if k + 1 < c x then _ else pickF c r (k + 1 - c x)) = _
            rw [if_neg q, show k + 1 - c x = k - c x + 1 by omega]
            exact h2
        · refine .inr ⟨x :: u, z, y, v, by rw [e]; rfl, ?_, ?_⟩
          · show (if k < c x then _ else pickF c r (k - c x)) = _
            rw [if_neg q2]
            exact h1
          · show (if k + 1 < c x then _ else pickF c r (k + 1 - c x)) = _
            rw [if_neg q, show k + 1 - c x = k - c x + 1 by omega]
            exact h2
/-! rows -/
theorem rowF_eq {n : Nat} {m : List Str} {k : Nat} {x : Str} {j : Nat} (h : pickF (fun x => cnt nx n (m ++ [x])) (nx m) k = some (x, j)) : rowF nx (n + 1) m k = x :: rowF nx n (m ++ [x]) j := by
  show (match pickF (fun x => cnt nx n (m ++ [x])) (nx m) k with | none => [] | some p => p.1 :: rowF nx n (m ++ [p.1]) p.2) = _
  rw [h]
theorem rowF_len (N : Nx nx ys) : ∀ (n : Nat) {m : List Str} {k : Nat}, k < cnt nx n m → (rowF nx n m k).length = n
  | 0, _, _, _ => rfl
  | n + 1, m, k, h => by
    obtain ⟨x, j, h1, h2, h3⟩ := pick_some (c := fun x => cnt nx n (m ++ [x])) (l := nx m) h
    rw [rowF_eq h1, List.length_cons, rowF_len N n h2]
def FirstAt (nx : List Str → List Str) (row : List Str) (at' : Nat) : Prop := ∀ k, at' ≤ k → k < row.length → ∃ x r, row[k]? = some x ∧ nx (row.take k) = x :: r
def LastAt (nx : List Str → List Str) (row : List Str) (at' : Nat) : Prop := ∀ k, at' ≤ k → k < row.length → ∃ x u, row[k]? = some x ∧ nx (row.take k) = u ++ [x]
theorem first_at (N : Nx nx ys) : ∀ (n : Nat) {m : List Str}, Lv ys n m → FirstAt nx (m ++ rowF nx n m 0) m.length
  | 0, m, _ => fun k h1 h2 => by
    have : (m ++ rowF nx 0 m 0).length = m.length := by show (m ++ []).length = _; rw [List.append_nil]
    omega
  | n + 1, m, h => fun k h1 h2 => by
    have hne : nx m ≠ [] := N.some m h.nd h.sub (by have := h.len; omega)
    obtain ⟨x, r, e⟩ : ∃ x r, nx m = x :: r := by
      cases q : nx m with
      | nil => exact absurd q hne
      | cons x r => exact ⟨x, r, rfl⟩
    have hx : x ∈ nx m := by rw [e]; exact List.mem_cons_self ..
    have hl := h.step N hx
    have hp : pickF (fun x => cnt nx n (m ++ [x])) (nx m) 0 = some (x, 0) := by rw [e]; exact pick_first (cnt_pos N n hl)
    have er := rowF_eq hp
    have ea : m ++ rowF nx (n + 1) m 0 = (m ++ [x]) ++ rowF nx n (m ++ [x]) 0 := by rw [er]; simp
    by_cases q : k = m.length
    · subst q
      exact ⟨x, r, by rw [er]; simp, by rw [List.take_left, e]⟩
    · rw [ea] at h2 ⊢
      exact first_at N n hl k (by rw [List.length_append, List.length_singleton]; omega) h2
theorem last_at (N : Nx nx ys) : ∀ (n : Nat) {m : List Str}, Lv ys n m → LastAt nx (m ++ rowF nx n m (cnt nx n m - 1)) m.length
  | 0, m, _ => fun k h1 h2 => by
    have : (m ++ rowF nx 0 m (cnt nx 0 m - 1)).length = m.length := by show (m ++ []).length = _; rw [List.append_nil]
    omega
  | n + 1, m, h => fun k h1 h2 => by
    have hne : nx m ≠ [] := N.some m h.nd h.sub (by have := h.len; omega)
    obtain ⟨u, x, e, hp⟩ := pick_last (c := fun x => cnt nx n (m ++ [x])) hne fun x hx => cnt_pos N n (h.step N hx)
    have hx : x ∈ nx m := by rw [e]; exact List.mem_append_right _ (List.mem_cons_self ..)
    have hl := h.step N hx
    have er : rowF nx (n + 1) m (cnt nx (n + 1) m - 1) = x :: rowF nx n (m ++ [x]) (cnt nx n (m ++ [x]) - 1) := rowF_eq hp
    have ea : m ++ rowF nx (n + 1) m (cnt nx (n + 1) m - 1) = (m ++ [x]) ++ rowF nx n (m ++ [x]) (cnt nx n (m ++ [x]) - 1) := by rw [er]; simp
    by_cases q : k = m.length
    · subst q
      exact ⟨x, u, by rw [er]; simp, by rw [List.take_left, e]⟩
    · rw [ea] at h2 ⊢
      exact last_at N n hl k (by rw [List.length_append, List.length_singleton]; omega) h2
/-- a row and the next one -/
structure NextTo (nx : List Str → List Str) (row other : List Str) : Prop where
  by' : ∃ P h h' s t u v, row = P ++ h :: s ∧ other = P ++ h' :: t ∧ nx P = u ++ h :: h' :: v ∧ LastAt nx row (P.length + 1) ∧ FirstAt nx other (P.length + 1)
theorem next_to (N : Nx nx ys) : ∀ (n : Nat) {m : List Str} {k : Nat}, Lv ys n m → k + 1 < cnt nx n m → NextTo nx (m ++ rowF nx n m k) (m ++ rowF nx n m (k + 1))
  | 0, m, k, _, h => by
    have : cnt nx 0 m = 1 := rfl
    omega
  | n + 1, m, k, h, hk => by
    rcases pick_next (c := fun x => cnt nx n (m ++ [x])) (l := nx m) (k := k) (fun x hx => cnt_pos N n (h.step N hx)) hk with ⟨x, j, h1, h2, h3, h4⟩ | ⟨u, x, y, v, e, h1, h2⟩
    · rw [rowF_eq h1, rowF_eq h2]
      have := next_to N n (h.step N h4) h3
      have e1 : m ++ x :: rowF nx n (m ++ [x]) j = (m ++ [x]) ++ rowF nx n (m ++ [x]) j := by simp
      have e2 : m ++ x :: rowF nx n (m ++ [x]) (j + 1) = (m ++ [x]) ++ rowF nx n (m ++ [x]) (j + 1) := by simp
      rw [e1, e2]
      exact this
    · rw [rowF_eq h1, rowF_eq h2]
      have hx : x ∈ nx m := by rw [e]; simp
      have hy : y ∈ nx m := by rw [e]; simp
      have l1 := last_at N n (h.step N hx)
      have l2 := first_at N n (h.step N hy)
      refine ⟨m, x, y, _, _, u, v, rfl, rfl, e, ?_, ?_⟩
      · have e1 : m ++ x :: rowF nx n (m ++ [x]) (cnt nx n (m ++ [x]) - 1) = (m ++ [x]) ++ rowF nx n (m ++ [x]) (cnt nx n (m ++ [x]) - 1) := by simp
        rw [e1]
        rw [List.length_append, List.length_singleton] at l1
        exact l1
      · have e2 : m ++ y :: rowF nx n (m ++ [y]) 0 = (m ++ [y]) ++ rowF nx n (m ++ [y]) 0 := by simp
        rw [e2]
        rw [List.length_append, List.length_singleton] at l2
        exact l2
end
end Ah
set_option Elab.async false
set_option linter.all false
set_option maxRecDepth 100000
set_option maxHeartbeats 4000000
namespace Ah
open PySem PySem.Spec PyProof.Rows L2
open PySem.W (AllAlike Sortable)
/-! ### tuples of texts in a list -/
def TxV (H : Hp) (v : V) (m : List Str) : Prop := ∃ T : Addr, v = .ref T ∧ H T = some (.tup (m.map V.str))
abbrev TxsV (H : Hp) : List V → List (List Str) → Prop := Paired (TxV H)
theorem TxV.same {H H' : Hp} {v : V} {m : List Str} (k : Same H H') (h : TxV H v m) : TxV H' v m := by
  obtain ⟨T, e, h⟩ := h
  exact ⟨T, e, k _ _ h⟩
theorem TxsV.same {H H' : Hp} {vs : List V} {ms : List (List Str)} (k : Same H H') (h : TxsV H vs ms) : TxsV H' vs ms := Paired.mapP h fun _ _ z => z.same k
theorem TxsV.get {H : Hp} : ∀ {vs : List V} {ms : List (List Str)} {i : Nat} {v : V}, TxsV H vs ms → vs[i]? = some v → ∃ m, ms[i]? = some m ∧ TxV H v m
  | _, _, _, _, .nil, e => by simp at e
  | _, _, 0, _, .cons h _, e => by
    simp at e
    subst e
    exact ⟨_, rfl, h⟩
  | _, _, i + 1, _, .cons _ t, e => TxsV.get t (i := i) (by simpa using e)
theorem TxsV.app {H : Hp} : ∀ {vs ws : List V} {ms qs : List (List Str)}, TxsV H vs ms → TxsV H ws qs → TxsV H (vs ++ ws) (ms ++ qs)
  | _, _, _, _, .nil, k => k
  | _, _, _, _, .cons h t, k => .cons h (TxsV.app t k)
def tD (m : List Str) : PyData := .tuple (m.map PyData.str)
theorem TxsV.dp {K : PySem.W.Frag} {H : Hp} : ∀ {vs : List V} {ms : List (List Str)}, TxsV H vs ms → DpAll K H vs (ms.map tD)
  | _, _, .nil => .nil
  | _, _, .cons h t => by
    obtain ⟨T, rfl, h⟩ := h
    exact .cons (.tup (.inl (.inl h)) (dp_strs _)) (TxsV.dp t)
theorem alike_strs : ∀ a b : List Str, PySem.W.alikeAll (a.map PyData.str) (b.map PyData.str) = true
  | [], _ => by simp [PySem.W.alikeAll]
  | _ :: _, [] => by simp [PySem.W.alikeAll]
  | x :: a, y :: b => by
    show PySem.W.alikeAll (.str x :: a.map .str) (.str y :: b.map .str) = true
    rw [PySem.W.alikeAll, alike_strs a b]
    simp [PySem.W.alike]
theorem alike_tD (ms : List (List Str)) : AllAlike (ms.map tD) := AllAlike.of fun a b => by
  show PySem.W.alike (.tuple (a.map PyData.str)) (.tuple (b.map PyData.str)) = true
  rw [PySem.W.alike]
  exact alike_strs a b
theorem depth_strs : ∀ a : List Str, PyData.depthAll (a.map PyData.str) = 0
  | [] => by simp [PyData.depthAll]
  | x :: a => by
    show PyData.depthAll (.str x :: a.map .str) = 0
    rw [PyData.depthAll, depth_strs a]
    simp [PyData.depth]
theorem depth_tD (m : List Str) : (tD m).depth ≤ 60 := by
  unfold tD
  rw [PyData.depth, depth_strs]
  decide
theorem txs_perm {H : Hp} {us : List V} {ms : List (List Str)} {zs : List (V × PyData)} (h : TxsV H us ms) (pm : zs.Perm (us.zip (ms.map tD))) : ∃ ms' : List (List Str), TxsV H (zs.map (·.1)) ms' ∧ ms'.Perm ms ∧ zs.map (·.2) = ms'.map tD := by
  have e : us.zip (ms.map tD) = (us.zip ms).map fun p => (p.1, tD p.2) := by
    rw [List.zip_map_right]
    rfl
  obtain ⟨ws, pw, rfl⟩ := perm_map_inv pm e
  have all : ∀ w ∈ us.zip ms, TxV H w.1 w.2 := by
    clear pm pw e
    induction h with
    | nil => intro w hw; cases hw
    | cons a _ ih =>
      intro w hw
      rcases List.mem_cons.mp hw with e | hw
      · subst e
        exact a
      · exact ih w hw
  have len := Paired.length h
  have all2 : ∀ w ∈ ws, TxV H w.1 w.2 := fun w hw => all w (pw.mem_iff.mp hw)
  refine ⟨ws.map (·.2), ?_, ?_, by rw [List.map_map, List.map_map]; rfl⟩
  · clear pm pw
    induction ws with
    | nil => exact .nil
    | cons w r ih => exact .cons (all2 w (List.mem_cons_self ..)) (ih fun v hv => all2 v (List.mem_cons_of_mem _ hv))
  · have := pw.map (·.2)
    rwa [List.map_snd_zip (by omega)] at this
theorem iOr_by2 {K : PySem.W.Frag} {tl : TE} {a : Addr} {xs : List V} {σ : L2.St} {H H1 : Hp} {R : It → Hp → Prop} (ht : ∀ Q : VK, Q (.ref a) H1 → tl σ H1 Q) (s : Same H H1) (h : LTu H a xs) (k : ∀ J L, Goer J L xs → L H → R J H1) : iOr (iList K tl) (iTup K tl) σ H1 R := by
  rcases h with h | h
  · exact .inl (ht _ ⟨a, rfl, ⟨_, SqL.of (s _ _ h)⟩, k _ _ (goer_l K a xs) h⟩)
  · exact .inr (ht _ ⟨a, rfl, ⟨_, .inl (rd_same s h)⟩, k _ _ (goer_t K a xs) h⟩)
/-! ### sets_of -/
abbrev sSets : Stmt := topS 7
abbrev sSetsAt : Stmt := topS 8
abbrev sUnited : Stmt := topS 9
section
variable {P : Program} {w : World} {K : PySem.W.Frag} {mg : Str → Option Value} {base : Heap}
theorem scSetsAt : FnScope ["hands", "found", "hand", "members"] ["hands"] (defScope sSetsAt) := ⟨rfl, rfl, rfl, by decide +kernel, rfl, by decide +kernel, by decide +kernel⟩
def spSetsAt : Sp := fun vs H Q _ => ∃ (a : Addr) (hs ys : List Str), vs = [.ref a] ∧ LTu H a (hs.map V.str) ∧ ys.Perm hs ∧ ys.Pairwise sLt ∧ hs.length ≤ 8 ∧
  ∀ (q : Addr) (us : List V) (H' : Hp), Same H H' → H' q = some (.lst us) → TxsV H' us (sbs ys) → Q (.ref q) H'
theorem ok_setsAt {f : Addr} {fd : FuncData} (F : Fun K "sets_at" "sets_at" sSetsAt f fd) (B : Blt2 mg) : FnOk P w K mg base CX0 1 f fd ["hands"] spSetsAt := by
  refine F.ok scSetsAt (fun vs H Q E h => ?_) (fun cdv A outer s H vs Q E hr h => ?_)
  · obtain ⟨a, hs, ys, rfl, _⟩ := h
    rfl
  · obtain ⟨a, hs, ys, rfl, ha, py, srt, hl, k⟩ := h
    have nd := scSetsAt.nd
    have hu := hu_of hr
    have hu64 : (A.deeper (envOfC "sets_at" (defScope sSetsAt) s.heap.objs.size f cdv)).units + 64 < cLine := by
      have := hr.units
      omega
    refine ⟨_, pss_cons (ps_set (i := 1) nd rfl (.inl rfl) (pe_lst (pa_cons (pe_tup pa_nil) pa_nil)))
      (pss_cons (ps_for PassesOwn.never rfl (pi_list (pe_callB cr_sortedTS (by rfl) B.sorted (by decide +kernel) (pa_cons (pv 0) pa_nil))) (pg_name (i := 2) nd rfl (.inr rfl))
        (pss_one (ps_set (i := 1) nd rfl (.inl rfl) (pe_op op_cat (pv 1) (pe_lc (own := [("members", 3)]) (g := gName 3) (tt := tYes) (te := tOp (rCatA K) (tVar 3) (tTup (tCons (tVar 2) tNil))) rfl nd (pi_list (pv 1))
          (blkOk_by (N := ["hands", "found", "hand", "members"]) (sc := defScope sSetsAt) (by decide +kernel)) (fun _ _ _ _ _ => pg_name (i := 3) nd rfl (Or.inl rfl)) (fun _ _ _ _ _ => pts_nil)
          (fun _ _ _ _ _ => pe_op (r := rCatA K) op_catA (pv 3) (pe_tup (pa_cons (pv 2) pa_nil))))))))
      (pss_one (ps_ret (pv 1)))), ?_⟩
    have lys := py.length_eq
    refine ⟨by show 0 ≤ sizeLine; decide, fun T hT => ⟨by show 1 ≤ sizeLine; decide, fun L hL => ?_⟩⟩
    have sT : Same H (upd H T (.tup [])) := same_new hT
    have sL : Same (upd H T (.tup [])) (upd (upd H T (.tup [])) L (.lst [.ref T])) := same_new hL
    have eT : (upd (upd H T (.tup [])) L (.lst [.ref T])) T = some (.tup []) := sL _ _ upd_same
    have eL : (upd (upd H T (.tup [])) L (.lst [.ref T])) L = some (.lst [.ref T]) := upd_same
    have s0 := sT.trans sL
    generalize upd (upd H T (.tup [])) L (.lst [.ref T]) = H1 at eT eL s0
    refine ⟨_, rfl, a, hs, rfl, ?_, by omega, fun zs q pz sz hq => ⟨q, rfl, ⟨_, SqL.of upd_same⟩, ?_⟩⟩
    · rcases ha with h | h
      · exact .inl (SqL.of (s0 _ _ h))
      · exact .inr (.inl (rd_same s0 h))
    have ezs : zs = ys := srt_eq (rises_of_sorted sz (pz.nodup_iff.mpr (py.nodup_iff.mp (srt_nodup srt)))) srt fun x => (pz.trans py.symm).mem_iff
    subst ezs
    have sq : Same H1 (upd H1 q (.lst (zs.map V.str))) := same_new hq
    have eq : (upd H1 q (.lst (zs.map V.str))) q = some (.lst (zs.map V.str)) := upd_same
    generalize upd H1 q (.lst (zs.map V.str)) = H2 at sq eq ⊢
    refine for_list (K := K) (a := q) (xs := zs.map V.str) (fun i σ H3 => ∃ (o2 : Option V) (f : Addr) (us : List V), σ = [some (.ref a), some (.ref f), o2, none] ∧ Same H2 H3 ∧ H3 f = some (.lst us) ∧ TxsV H3 us (sbs (zs.take i)))
      ⟨none, L, [.ref T], rfl, Same.refl _, sq _ _ eL, .cons ⟨T, rfl, sq _ _ eT⟩ .nil⟩ (fun i σ H3 _ ⟨_, _, _, _, s3, _⟩ => SqL.of (s3 _ _ eq)) ?_ ?_
    · rintro i x σ H3 hx ⟨o2, f, us, rfl, s3, ef, hm⟩
      obtain ⟨y, hy, rfl, _⟩ := str_at hx
      have hil := (List.getElem?_eq_some_iff.mp hy).1
      have et : zs.take (i + 1) = zs.take i ++ [y] := by rw [List.take_succ, hy]; rfl
      have lu := Paired.length hm
      have lb : (sbs (zs.take i)).length ≤ 256 := sbs_bound (by rw [List.length_take]; omega)
      refine ⟨_, rfl, _, rfl, f, rfl, ⟨_, SqL.of ef⟩, fun D hD => ?_⟩
      refine lc_list (K := K) (a := f) (xs := us) (fun j H4 => Same H3 H4 ∧ ∃ ws, H4 D = some (.lst ws) ∧ TxsV H4 ws (((sbs (zs.take i)).take j).map fun m => m ++ [y])) ⟨same_new hD, [], upd_same, .nil⟩ (fun j H4 _ z => SqL.of (z.1 _ _ ef)) ?_ ?_
      · rintro j v H4 hv ⟨s4, ws, eD, hw⟩
        obtain ⟨m, hm', vm⟩ := hm.get hv
        obtain ⟨M, rfl, eM⟩ := vm.same s4
        have hjl := (List.getElem?_eq_some_iff.mp hv).1
        have lw := Paired.length hw
        rw [List.length_map, List.length_take] at lw
        have em : (((sbs (zs.take i)).take (j + 1)).map fun m => m ++ [y]) = (((sbs (zs.take i)).take j).map fun m => m ++ [y]) ++ [m ++ [y]] := by
          rw [List.take_succ, hm', List.map_append]
          rfl
        rw [em]
        have lm : m.length ≤ 8 := by
          have := (sbs_mem.mp (List.mem_of_getElem? hm')).length_le
          rw [List.length_take] at this
          omega
        have fin : ∀ (c : Addr) (H5 : Hp), Same H4 H5 → H5 c = some (.tup ((m ++ [y]).map V.str)) → ∃ acc, H5 D = some (.lst acc) ∧ acc.length < sizeLine ∧ Same H3 (upd H5 D (.lst (acc ++ [V.ref c]))) ∧ ∃ ws', (upd H5 D (.lst (acc ++ [V.ref c]))) D = some (.lst ws') ∧ TxsV (upd H5 D (.lst (acc ++ [V.ref c]))) ws' ((((sbs (zs.take i)).take j).map fun m => m ++ [y]) ++ [m ++ [y]]) := fun c H5 s5 ec => by
          have eD5 := s5 _ _ eD
          refine ⟨ws, eD5, small1000 (by omega), same_mut (s4.trans s5) hD, _, upd_same, ?_⟩
          have mv : ∀ (v : V) (m : List Str), TxV H5 v m → TxV (upd H5 D (.lst (ws ++ [V.ref c]))) v m := fun v m ⟨T, e, h⟩ => ⟨T, e, (upd_ne (ne_of h eD5 fun z => nomatch z)).trans h⟩
          exact TxsV.app (Paired.mapP (TxsV.same s5 hw) mv) (.cons (mv _ _ ⟨c, rfl, ec⟩) .nil)
        refine ⟨rfl, _, rfl, _, rfl, by show 1 ≤ sizeLine; decide, fun B2 hB2 => ?_⟩
        have s5 : Same H4 (upd H4 B2 (.tup [.str y])) := same_new hB2
        refine ⟨M, B2, m.map V.str, [.str y], rfl, rfl, .inl (.inl (s5 _ _ eM)), .inl (.inl upd_same), ?_, fun e0 => ?_, fun _ e1 => ?_, fun _ _ c hc => ?_⟩
        · rw [List.length_map]
          exact Nat.le_of_lt (small1000 (by show m.length + 1 ≤ 1000; omega))
        · have : m = [] := List.map_eq_nil_iff.mp e0
          subst this
          exact fin B2 _ s5 upd_same
        · cases e1
        · have s6 : Same (upd H4 B2 (.tup [.str y])) (upd (upd H4 B2 (.tup [.str y])) c (.tup (m.map V.str ++ [.str y]))) := same_new hc
          refine fin c _ (s5.trans s6) ?_
          rw [upd_same, List.map_append]
          rfl
      · rintro H4 ⟨s4, ws, eD, hw⟩
        rw [lu, List.take_length] at hw
        have lw := Paired.length hw
        rw [List.length_map] at lw
        refine ⟨f, D, us, ws, rfl, rfl, s4 _ _ ef, eD, Nat.le_of_lt (small1000 (by omega)), fun p hp => ?_⟩
        have s5 : Same H4 (upd H4 p (.lst (us ++ ws))) := same_new hp
        refine ⟨_, p, us ++ ws, rfl, s3.trans (s4.trans s5), upd_same, ?_⟩
        rw [et, sbs_snoc]
        exact TxsV.app (hm.same (s4.trans s5)) (hw.same s5)
    · rintro σ H3 ⟨o2, f, us, rfl, s3, ef, hm⟩
      rw [List.length_map, List.take_length] at hm
      exact ⟨_, rfl, k _ _ _ (((s0.trans sq).trans s3)) ef hm⟩
theorem scSets : FnScope ["hands"] ["hands"] (defScope sSets) := ⟨rfl, rfl, rfl, by decide +kernel, rfl, by decide +kernel, by decide +kernel⟩
def spSets : Sp := fun vs H Q _ => ∃ (a : Addr) (hs ys : List Str), vs = [.ref a] ∧ LTu H a (hs.map V.str) ∧ ys.Perm hs ∧ ys.Pairwise sLt ∧ hs.length ≤ 8 ∧
  ∀ (q : Addr) (us : List V) (ms : List (List Str)) (H' : Hp), Same H H' → (∀ m, m ∈ ms ↔ m.Sublist ys) → ms.length ≤ 256 → H' q = some (.lst us) → TxsV H' us ms → Q (.ref q) H'
theorem ok_sets {f f1 : Addr} {fd fd1 : FuncData} (F : Fun K "sets_of" "sets_of" sSets f fd) (B : Blt2 mg) (D1 : Df P w K mg base CX0 "sets_at" 1 f1 fd1 ["hands"] spSetsAt) : FnOk P w K mg base CX0 2 f fd ["hands"] spSets := by
  refine F.ok scSets (fun vs H Q E h => ?_) (fun cdv A outer s H vs Q E hr h => ?_)
  · obtain ⟨a, hs, ys, rfl, _⟩ := h
    rfl
  · obtain ⟨a, hs, ys, rfl, ha, py, srt, hl, k⟩ := h
    have nd := scSets.nd
    have hu := hu_of hr
    have hu64 : (A.deeper (envOfC "sets_of" (defScope sSets) s.heap.objs.size f cdv)).units + 64 < cLine := by
      have := hr.units
      omega
    refine ⟨_, pss_one (ps_ret (pe_callB (cr_sortedE hu64) (by rfl) B.sorted (by decide +kernel) (pa_cons (pe_call D1.ok hr rfl D1.g D1.kp D1.b .nil pass0 (pa_cons (pv 0) pa_nil)) pa_nil))), ?_⟩
    have lys := py.length_eq
    refine ⟨_, rfl, a, hs, ys, rfl, ha, py, srt, hl, fun f us H3 s3 ef hm => ?_⟩
    refine ⟨f, us, (sbs ys).map tD, rfl, SqL.of ef, hm.dp, alike_tD _, fun d hd => ?_, ?_, fun d hd => ?_, fun ws p pw _ hp => ?_⟩
    · obtain ⟨m, _, rfl⟩ := List.mem_map.mp hd
      exact ⟨_, rfl⟩
    · rw [List.getElem?_map, sbs_first]
      rfl
    · obtain ⟨m, _, rfl⟩ := List.mem_map.mp hd
      exact depth_tD m
    · obtain ⟨ms, h1, h2, _⟩ := txs_perm hm pw
      have sp : Same H3 (upd H3 p (.lst (ws.map (·.1)))) := same_new hp
      refine k p _ ms _ (s3.trans sp) (fun m => h2.mem_iff.trans sbs_mem) ?_ upd_same (h1.same sp)
      rw [h2.length_eq]
      exact sbs_bound (by omega)
/-! ### united -/
theorem scUnited : FnScope ["one", "other"] ["one", "other"] (defScope sUnited) := ⟨rfl, rfl, rfl, by decide +kernel, rfl, by decide +kernel, by decide +kernel⟩
def spUnited : Sp := fun vs H Q _ => ∃ (a b : Addr) (m : List Str) (x : Str), vs = [.ref a, .ref b] ∧ Rd H a (.tup (m.map V.str)) ∧ Rd H b (.tup [.str x]) ∧ m.length ≤ 8 ∧ m.Nodup ∧ x ∉ m ∧
  ∀ (q : Addr) (m' : List Str) (H' : Hp), Same H H' → m'.Perm (m ++ [x]) → m'.Pairwise sLt → H' q = some (.tup (m'.map V.str)) → Q (.ref q) H'
theorem ok_united {f : Addr} {fd : FuncData} (F : Fun K "united" "united" sUnited f fd) (B : Blt2 mg) : FnOk P w K mg base CX0 1 f fd ["one", "other"] spUnited := by
  refine F.ok scUnited (fun vs H Q E h => ?_) (fun cdv A outer s H vs Q E hr h => ?_)
  · obtain ⟨a, b, m, x, rfl, _⟩ := h
    rfl
  · obtain ⟨a, b, m, x, rfl, ha, hb, hl, ndm, nx, k⟩ := h
    refine ⟨_, pss_one (ps_ret (pe_callTy call_tuple_of (by rfl) B.tuple (by decide +kernel) (pa_cons (pe_callB cr_sortedTS (by rfl) B.sorted (by decide +kernel) (pa_cons (pe_op (r := rCatA K) op_catA (pv 0) (pv 1)) pa_nil)) pa_nil))), ?_⟩
    have nd2 : (m ++ [x]).Nodup := by
      rw [List.nodup_append]
      exact ⟨ndm, List.nodup_cons.mpr ⟨List.not_mem_nil, List.nodup_nil⟩, fun y hy z hz e => nx (by rw [← List.mem_singleton.mp hz, ← e]; exact hy)⟩
    have fin : ∀ (c : Addr) (H1 : Hp), Same H H1 → SqT K H1 c ((m ++ [x]).map V.str) → rSortedTS K [.ref c] H1 fun v H2 => ∃ p ys, [v] = [.ref p] ∧ ((SqL K H2 p ys ∧ ∀ l, H2 l = none → Q (.ref l) (upd H2 l (.tup ys))) ∨ (SqT K H2 p ys ∧ Q (.ref p) H2)) := fun c H1 s1 hc => by
      refine ⟨c, m ++ [x], rfl, .inr hc, by rw [List.length_append, List.length_singleton]; omega, fun zs p pz sz hp => ⟨p, zs.map V.str, rfl, .inl ⟨SqL.of upd_same, fun l hl => ?_⟩⟩⟩
      exact k l zs _ ((s1.trans (same_new hp)).trans (same_new hl)) pz (rises_of_sorted sz (pz.nodup_iff.mpr nd2)) upd_same
    refine ⟨_, rfl, _, rfl, a, b, m.map V.str, [.str x], rfl, rfl, .inl ha, .inl hb, ?_, fun e0 => ?_, fun _ e1 => ?_, fun _ _ p hp => ?_⟩
    · rw [List.length_map]
      exact Nat.le_of_lt (small1000 (by show m.length + 1 ≤ 1000; omega))
    · have : m = [] := List.map_eq_nil_iff.mp e0
      subst this
      exact fin b H (Same.refl H) (.inl hb)
    · cases e1
    · refine fin p _ (same_new hp) (.inl (.inl ?_))
      rw [upd_same, List.map_append]
      rfl
end
end Ah
set_option Elab.async false
set_option linter.all false
set_option maxRecDepth 100000
set_option maxHeartbeats 4000000
namespace Ah
open PySem PySem.Spec PyProof.Rows L2
theorem for_gen {J : It} {L : Hp → Prop} {xs : List V} (G : Goer J L xs) {g : TG} {tb : TS} {D : Ends} {σ : L2.St} {H : Hp} (Pv : Nat → L2.St → Hp → Prop) (h0 : Pv 0 σ H) (hl : ∀ i σ H, i ≤ xs.length → Pv i σ H → L H)
    (hs : ∀ i σ H, i < xs.length → Pv i σ H → g (xs.getD i .non) σ H fun σ2 H2 => tb { D with nx := Pv (i + 1), ct := Pv (i + 1), bk := D.nx } σ2 H2) (hd : ∀ σ H, Pv xs.length σ H → D.nx σ H) :
    ∃ W : Nat → Nat → L2.St → Hp → Prop, (∃ m, W 0 m σ H) ∧ ∀ i m σ H, W i m σ H →
      (J.stop i H ∧ D.nx σ H) ∨ (J.go i H ∧ ∃ N : L2.St → Hp → Prop, (∀ σ' H', N σ' H' → ∃ m', m' < m ∧ W (i + 1) m' σ' H') ∧ ∀ x H', J.yld i H x H' → g x σ H' fun σ2 H2 => tb { D with nx := N, ct := N, bk := D.nx } σ2 H2) := by
  refine ⟨fun i m σ H => m = xs.length - i ∧ i ≤ xs.length ∧ Pv i σ H, ⟨xs.length, rfl, Nat.zero_le _, h0⟩, ?_⟩
  rintro i m σ H ⟨rfl, hi, p⟩
  have q := hl i σ H hi p
  rcases Nat.lt_or_ge i xs.length with hlt | hge
  · refine .inr ⟨G.go i H hlt q, Pv (i + 1), fun σ' H' p' => ⟨xs.length - (i + 1), by omega, rfl, hlt, p'⟩, fun x H' y => ?_⟩
    obtain ⟨rfl, rfl⟩ := G.yld i H x H' q hlt y
    exact hs i σ _ hlt p
  · obtain rfl : i = xs.length := by omega
    exact .inl ⟨G.stop H q, hd σ H p⟩
theorem getD_strs (xs : List Str) {i : Nat} (h : i < xs.length) : (xs.map V.str).getD i .non = .str (xs.getD i default) := by
  rw [List.getD_eq_getElem?_getD, List.getD_eq_getElem?_getD, List.getElem?_map, List.getElem?_eq_getElem h]
  rfl

abbrev sHeads : Stmt := topS 15
abbrev sAllAhead : Stmt := topS 16
abbrev sFree : Stmt := topS 17
/-- a set with all that stand ahead -/
def Hd (ps : List (Str × Str)) (m : List Str) : Prop := ∀ p ∈ ps, p.2 ∈ m → p.1 ∈ m
instance (ps : List (Str × Str)) (m : List Str) : Decidable (Hd ps m) := by unfold Hd; infer_instance
def bsOf (ps : List (Str × Str)) (m : List Str) : List Bool := (ps.filter fun p => decide (p.2 ∈ m)).map fun p => decide (p.1 ∈ m)
theorem bsOf_all (ps : List (Str × Str)) (m : List Str) : (bsOf ps m).all id = decide (Hd ps m) := by
  unfold bsOf
  rw [Bool.eq_iff_iff, List.all_eq_true, decide_eq_true_iff]
  constructor
  · intro h p hp h2
    exact of_decide_eq_true (h _ (List.mem_map.mpr ⟨p, List.mem_filter.mpr ⟨hp, decide_eq_true h2⟩, rfl⟩))
  · intro h b hb
    obtain ⟨p, hp, rfl⟩ := List.mem_map.mp hb
    obtain ⟨h1, h2⟩ := List.mem_filter.mp hp
    exact decide_eq_true (h p h1 (of_decide_eq_true h2))
/-- a dict of texts, all True -/
def HeldK (H : Hp) (D : Addr) (n : Nat) (L : List Str) : Prop := ∃ kvs : List (Key × V), H D = some (.dK kvs) ∧ kvs.length ≤ n ∧ ∀ x : Str, (valV kvs (.inr x)).isSome = decide (x ∈ L)
section
variable {P : Program} {w : World} {K : PySem.W.Frag} {mg : Str → Option Value} {base : Heap}
theorem scAllAhead : FnScope ["web", "members", "a", "b"] ["web", "members"] (defScope sAllAhead) := ⟨rfl, rfl, rfl, by decide +kernel, rfl, by decide +kernel, by decide +kernel⟩
def spAllAhead : Sp := fun vs H Q _ => ∃ (t : Addr) (v : V) (us : List V) (ps : List (Str × Str)) (m : List Str), vs = [.ref t, v] ∧ Rd H t (.tup us) ∧ PrsV H us ps ∧ TxV H v m ∧ ps.length ≤ 64 ∧ ∀ H', Same H H' → Q (.bl (decide (Hd ps m))) H'
theorem ok_allAhead {f : Addr} {fd : FuncData} (F : Fun K "has_all_ahead" "has_all_ahead" sAllAhead f fd) (B : Blt2 mg) : FnOk P w K mg base CX0 1 f fd ["web", "members"] spAllAhead := by
  refine F.ok scAllAhead (fun vs H Q E h => ?_) (fun cdv A outer s H vs Q E hr h => ?_)
  · obtain ⟨t, v, us, ps, m, rfl, _⟩ := h
    rfl
  · obtain ⟨t, v, us, ps, m, rfl, ht, hps, ⟨M, rfl, hM⟩, hl, k⟩ := h
    have nd := scAllAhead.nd
    refine ⟨_, pss_one (ps_ret (pe_callB (cr_all rfl) (by rfl) B.all (by decide +kernel) (pa_cons (pe_lc (own := [("a", 2), ("b", 3)]) (g := gTup K 2 (gCons (gName 2) (gCons (gName 3) gNil))) (tt := tTest (tOp (rIn K false) (tVar 3) (tVar 1))) (te := tOp (rIn K false) (tVar 2) (tVar 1)) rfl nd (pi_tup (pv 0))
          (blkOk_by (N := ["web", "members", "a", "b"]) (sc := defScope sAllAhead) (by decide +kernel)) (fun _ _ _ _ _ => pg_tup rfl (pgs_cons (pg_name (i := 2) nd rfl (Or.inl rfl)) (pgs_cons (pg_name (i := 3) nd rfl (Or.inl rfl)) pgs_nil)))
          (fun _ _ _ _ _ => pts_one (pt_cmpR (r := rIn K false) op_in_seq (pv 3) (pv 1) (by rfl)))
          (fun _ _ _ _ _ => pe_cmpR (r := rIn K false) op_in_seq (pv 2) (pv 1) (by rfl))) pa_nil))), ?_⟩
    have lu := hps.len
    refine ⟨_, rfl, t, rfl, ⟨_, .inl ht⟩, fun D hD => ?_⟩
    refine lc_tup (K := K) (a := t) (xs := us) (fun i H2 => Same H H2 ∧ H2 D = some (.lst ((bsOf (ps.take i) m).map V.bl))) ⟨same_new hD, upd_same⟩ (fun i H2 _ q => .inl (rd_same q.1 ht)) ?_ ?_
    · rintro i x H2 hx ⟨s2, e2⟩
      obtain ⟨p, hp, vp⟩ := hps.get hx
      obtain ⟨T, rfl, hT⟩ := vp.same s2
      have hil := (List.getElem?_eq_some_iff.mp hx).1
      have et : ps.take (i + 1) = ps.take i ++ [p] := by rw [List.take_succ, hp]; rfl
      have eM := s2 _ _ hM
      have split : bsOf (ps.take (i + 1)) m = bsOf (ps.take i) m ++ (if p.2 ∈ m then [decide (p.1 ∈ m)] else []) := by
        rw [et]
        unfold bsOf
        rw [List.filter_append, List.map_append, List.filter_cons]
        by_cases c : p.2 ∈ m
        · rw [if_pos (decide_eq_true c), if_pos c]; rfl
        · rw [if_neg (by rw [decide_eq_false c]; exact Bool.false_ne_true), if_neg c]; rfl
      rw [split]
      refine ⟨T, _, rfl, .inl (.inl hT), rfl, _, _, rfl, _, _, rfl, rfl, rfl, ?_⟩
      refine ⟨_, rfl, _, rfl, M, _, rfl, .inr (.inl (.inl eM)), rfl, flat_strs m, _, rfl, ?_⟩
      rw [if_neg Bool.false_ne_true, inV_txts]
      by_cases c : p.2 ∈ m
      · rw [decide_eq_true c, if_pos c]
        refine iteT ⟨_, rfl, _, rfl, M, _, rfl, .inr (.inl (.inl eM)), rfl, flat_strs m, ?_⟩
        rw [if_neg Bool.false_ne_true, inV_txts]
        refine ⟨_, e2, ?_, same_mut s2 hD, ?_⟩
        · rw [List.length_map]
          unfold bsOf
          rw [List.length_map]
          exact small1000 (Nat.le_trans (List.length_filter_le _ _) (by rw [List.length_take]; omega))
        · rw [upd_same, List.map_append]
          rfl
      · rw [decide_eq_false c, if_neg c, List.append_nil]
        exact iteF ⟨s2, e2⟩
    · rintro H2 ⟨s2, e2⟩
      rw [lu, List.take_length] at e2
      refine ⟨D, _, rfl, SqL.of e2, ?_⟩
      rw [bsOf_all]
      exact k H2 s2
theorem scHeads : FnScope ["hands", "web", "members"] ["hands", "web"] (defScope sHeads) := ⟨rfl, rfl, rfl, by decide +kernel, rfl, by decide +kernel, by decide +kernel⟩
def spHeads : Sp := fun vs H Q _ => ∃ (g t : Addr) (us : List V) (hs ys : List Str) (ps : List (Str × Str)), vs = [.ref g, .ref t] ∧ LTu H g (hs.map V.str) ∧ WebAt H t us hs ps ∧ ys.Perm hs ∧ ys.Pairwise sLt ∧ hs.length ≤ 8 ∧
  ∀ (q : Addr) (vs : List V) (ms : List (List Str)) (H' : Hp), Same H H' → (∀ m, m ∈ ms ↔ m.Sublist ys ∧ Hd ps m) → ms.length ≤ 256 → H' q = some (.lst vs) → TxsV H' vs ms → Q (.ref q) H'
theorem ok_heads {f f1 f2 f3 : Addr} {fd fd1 fd2 fd3 : FuncData} (F : Fun K "heads" "heads" sHeads f fd) (D1 : Df P w K mg base CX0 "check_web" 3 f1 fd1 ["hands", "web"] spCheckWeb) (D2 : Df P w K mg base CX0 "sets_of" 2 f2 fd2 ["hands"] spSets) (D3 : Df P w K mg base CX0 "has_all_ahead" 1 f3 fd3 ["web", "members"] spAllAhead) :
    FnOk P w K mg base CX0 4 f fd ["hands", "web"] spHeads := by
  refine F.ok scHeads (fun vs H Q E h => ?_) (fun cdv A outer s H vs Q E hr h => ?_)
  · obtain ⟨g, t, us, hs, ys, ps, rfl, _⟩ := h
    rfl
  · obtain ⟨g, t, us, hs, ys, ps, rfl, hg, hw, py, srt, hl, k⟩ := h
    have nd := scHeads.nd
    have hr1 : Room 1 _ := hr.mono (by decide)
    have hr2 : Room 2 _ := hr.mono (by decide)
    refine ⟨_, pss_cons (ps_expr (pe_call D1.ok hr rfl D1.g D1.kp D1.b .nil pass0 (pa_cons (pv 0) (pa_cons (pv 1) pa_nil))))
      (pss_one (ps_ret (pe_lc (own := [("members", 2)]) (g := gName 2) (tt := tB (tCall spAllAhead [] E0 (tCons (tVar 1) (tCons (tVar 2) tNil)))) (te := tVar 2) rfl nd (pi_list (pe_call D2.ok hr2 rfl D2.g D2.kp D2.b .nil pass0 (pa_cons (pv 0) pa_nil)))
          (blkOk_by (N := ["hands", "web", "members"]) (sc := defScope sHeads) (by decide +kernel)) (fun _ _ _ _ _ => pg_name (i := 2) nd rfl (Or.inl rfl))
          (fun _ _ _ _ _ => pts_one (pt_val (pe_call D3.ok hr1 rfl D3.g D3.kp D3.b .nil pass0 (pa_cons (pv 1) (pa_cons (pv 2) pa_nil)))))
          (fun _ _ _ _ _ => pv 2)))), ?_⟩
    refine ⟨_, rfl, _, rfl, g, t, us, hs, ps, rfl, hg, hw, fun H1 s1 => ?_⟩
    have hw1 := hw.same s1
    refine ⟨_, rfl, g, hs, ys, rfl, hg.same s1, py, srt, hl, fun q ws ms H2 s2 hm lm eq hws => ⟨q, rfl, ⟨_, SqL.of eq⟩, fun D hD => ?_⟩⟩
    have hw2 := hw1.same s2
    have lw := Paired.length hws
    refine lc_list (K := K) (a := q) (xs := ws) (fun i H3 => Same H2 H3 ∧ ∃ vs, H3 D = some (.lst vs) ∧ TxsV H3 vs ((ms.take i).filter fun m => decide (Hd ps m))) ⟨same_new hD, [], upd_same, .nil⟩ (fun i H3 _ z => SqL.of (z.1 _ _ eq)) ?_ ?_
    · rintro i v H3 hv ⟨s3, vs, eD, hvs⟩
      obtain ⟨m, hm', vm⟩ := hws.get hv
      have vm3 := vm.same s3
      have hil := (List.getElem?_eq_some_iff.mp hv).1
      have et : ms.take (i + 1) = ms.take i ++ [m] := by rw [List.take_succ, hm']; rfl
      have lvs := Paired.length hvs
      have lf : vs.length ≤ 256 := by
        rw [lvs]
        exact Nat.le_trans (List.length_filter_le _ _) (by rw [List.length_take]; omega)
      refine ⟨rfl, _, rfl, _, rfl, t, v, us, ps, m, rfl, rd_same s3 hw2.at', hw2.prs.same s3, vm3, hw2.few, fun H4 s4 => ⟨_, rfl, ?_⟩⟩
      rw [et, List.filter_append, List.filter_cons]
      by_cases c : Hd ps m
      · rw [decide_eq_true c]
        have eD4 := s4 _ _ eD
        refine iteT ⟨_, rfl, vs, eD4, small1000 (by omega), same_mut (s3.trans s4) hD, _, upd_same, ?_⟩
        have mv : ∀ (v' : V) (m : List Str), TxV H4 v' m → TxV (upd H4 D (.lst (vs ++ [v]))) v' m := fun v' m ⟨T, e, h⟩ => ⟨T, e, (upd_ne (ne_of h eD4 fun z => nomatch z)).trans h⟩
        exact TxsV.app (Paired.mapP (TxsV.same s4 hvs) mv) (.cons (mv _ _ (vm3.same s4)) .nil)
      · rw [decide_eq_false c]
        refine iteF ⟨s3.trans s4, vs, s4 _ _ eD, ?_⟩
        rw [if_neg Bool.false_ne_true, List.filter_nil, List.append_nil]
        exact hvs.same s4
    · rintro H3 ⟨s3, vs, eD, hvs⟩
      rw [lw, List.take_length] at hvs
      refine k D vs _ H3 ((s1.trans s2).trans s3) (fun m => ?_) (Nat.le_trans (List.length_filter_le _ _) lm) eD hvs
      rw [List.mem_filter, hm m, decide_eq_true_iff]
theorem scFree : FnScope ["hands", "web", "head", "held_back", "a", "b", "hand"] ["hands", "web", "head"] (defScope sFree) := ⟨rfl, rfl, rfl, by decide +kernel, rfl, by decide +kernel, by decide +kernel⟩
def spFree : Sp := fun vs H Q _ => ∃ (g t : Addr) (v : V) (us : List V) (hs ys m : List Str) (ps : List (Str × Str)), vs = [.ref g, .ref t, v] ∧ LTu H g (hs.map V.str) ∧ Rd H t (.tup us) ∧ PrsV H us ps ∧ TxV H v m ∧ ps.length ≤ 64 ∧ ys.Perm hs ∧ ys.Pairwise sLt ∧ hs.length ≤ 8 ∧
  ∀ (q : Addr) (H' : Hp), Same H H' → H' q = some (.lst ((nextOf ps m ys).map V.str)) → Q (.ref q) H'
theorem ok_free {f : Addr} {fd : FuncData} (F : Fun K "free_behind" "free_behind" sFree f fd) (B : Blt2 mg) : FnOk P w K mg base CX0 1 f fd ["hands", "web", "head"] spFree := by
  refine F.ok scFree (fun vs H Q E h => ?_) (fun cdv A outer s H vs Q E hr h => ?_)
  · obtain ⟨g, t, v, us, hs, ys, m, ps, rfl, _⟩ := h
    rfl
  · obtain ⟨g, t, v, us, hs, ys, m, ps, rfl, hg, ht, hps, ⟨M, rfl, hM⟩, lp, py, srt, hl, k⟩ := h
    have nd := scFree.nd
    have hu := hu_of hr
    refine ⟨_, pss_cons (ps_set (i := 3) nd rfl (.inr rfl) (pe_dc (own := [("a", 4), ("b", 5)]) (g := gTup K 2 (gCons (gName 4) (gCons (gName 5) gNil))) (tt := tTest (tOp (rIn K true) (tVar 4) (tVar 2))) (tk := tVar 5) (tv := tC (.bl true)) rfl nd (pi_tup (pv 1))
          (blkOk_by (N := ["hands", "web", "head", "held_back", "a", "b", "hand"]) (sc := defScope sFree) (by decide +kernel)) (fun _ _ _ _ _ => pg_tup rfl (pgs_cons (pg_name (i := 4) nd rfl (Or.inl rfl)) (pgs_cons (pg_name (i := 5) nd rfl (Or.inl rfl)) pgs_nil)))
          (fun _ _ _ _ _ => pts_one (pt_cmpR (r := rIn K true) op_notIn_seq (pv 4) (pv 2) (by rfl))) (fun _ _ _ _ _ => pv 5) (fun _ _ _ _ _ => pe_bl)))
      (pss_one (ps_ret (pe_callB cr_sortedTS (by rfl) B.sorted (by decide +kernel) (pa_cons (pe_lc (own := [("hand", 6)]) (g := gName 6) (tt := tAnd (tTest (tOp (rIn K true) (tVar 6) (tVar 2))) (tB (tDNotIn (tVar 6) (tVar 3)))) (te := tVar 6) rfl nd (pi_or (pi_list (pv 0)) (pi_tup (pv 0)))
          (blkOk_by (N := ["hands", "web", "head", "held_back", "a", "b", "hand"]) (sc := defScope sFree) (by decide +kernel)) (fun _ _ _ _ _ => pg_name (i := 6) nd rfl (Or.inl rfl))
          (fun _ _ _ _ _ => pts_one (PW.pt (pw_and (pt_cmpR (r := rIn K true) op_notIn_seq (pv 6) (pv 2) (by rfl)) (pw_and1 (pt_cmp (pc_dnotin hu (pv 6) (pv 3)))))))
          (fun _ _ _ _ _ => pv 6)) pa_nil)))), ?_⟩
    have lu := hps.len
    have lys := py.length_eq
    refine ⟨_, rfl, t, rfl, ⟨_, .inl ht⟩, fun D hD => ?_⟩
    refine dc_tup (K := K) (a := t) (xs := us) (fun i H2 => Same H H2 ∧ HeldK H2 D i (lackOf (ps.take i) m)) ⟨same_new hD, [], upd_same, Nat.le_refl _, fun x => rfl⟩ (fun i H2 _ q => .inl (rd_same q.1 ht)) ?_ ?_
    · rintro i x H2 hx ⟨s2, kvs, e2, l2, v2⟩
      obtain ⟨p, hp, vp⟩ := hps.get hx
      obtain ⟨T, rfl, hT⟩ := vp.same s2
      have hil := (List.getElem?_eq_some_iff.mp hx).1
      have et : ps.take (i + 1) = ps.take i ++ [p] := by rw [List.take_succ, hp]; rfl
      have eM := s2 _ _ hM
      have split : lackOf (ps.take (i + 1)) m = lackOf (ps.take i) m ++ (if p.1 ∈ m then [] else [p.2]) := by
        rw [et]
        unfold lackOf
        rw [List.filter_append, List.map_append, List.filter_cons]
        by_cases c : p.1 ∈ m
        · rw [if_neg (by rw [decide_eq_false (fun z => z c)]; exact Bool.false_ne_true), if_pos c]; rfl
        · rw [if_pos (decide_eq_true c), if_neg c]; rfl
      rw [split]
      refine ⟨T, _, rfl, .inl (.inl hT), rfl, _, _, rfl, _, _, rfl, rfl, rfl, ?_⟩
      refine ⟨_, rfl, _, rfl, M, _, rfl, .inr (.inl (.inl eM)), rfl, flat_strs m, _, rfl, ?_⟩
      rw [if_pos rfl, inV_txts]
      by_cases c : p.1 ∈ m
      · rw [decide_eq_true c, if_pos c, List.append_nil]
        exact iteF ⟨s2, kvs, e2, by omega, v2⟩
      · rw [decide_eq_false c, if_neg c]
        refine iteT ⟨_, rfl, kvs, .inr p.2, rfl, e2, small1000 (by omega), same_mut s2 hD, _, upd_same, ?_, fun x => ?_⟩
        · have := length_putK kvs (.inr p.2 : Key) (V.bl true)
          omega
        · rw [valV_put]
          by_cases e : x = p.2
          · subst e
            rw [if_pos rfl, decide_eq_true (List.mem_append_right _ (List.mem_cons_self ..))]
            rfl
          · rw [if_neg (fun z => e (Sum.inr.inj z)), v2 x]
            congr 1
            rw [List.mem_append, List.mem_singleton]
            exact propext ⟨.inl, fun z => z.resolve_right e⟩
    · rintro H2 ⟨s2, kvs, e2, l2, v2⟩
      rw [lu, List.take_length] at v2
      refine iOr_by2 (fun Q q => ⟨_, rfl, q⟩) s2 hg fun J L G hL => fun D1 hD1 => ?_
      have lm : (hs.map V.str).length = hs.length := List.length_map ..
      refine lc_gen (n := (hs.map V.str).length) (item := fun i => (hs.map V.str).getD i .non) (fun j H6 => Same H2 H6 ∧ H6 D1 = some (.lst ((nextOf ps m (hs.take j)).map V.str))) ⟨same_new hD1, upd_same⟩ (fun j H6 hj q => G.go j H6 hj (G.keep _ _ (s2.trans q.1) hL)) (fun H6 q => G.stop H6 (G.keep _ _ (s2.trans q.1) hL)) (fun j H6 x H' hj q y => G.yld j H6 x H' (G.keep _ _ (s2.trans q.1) hL) hj y) ?_ ?_
      · rintro j H6 hj ⟨s6, e6⟩
        rw [lm] at hj
        rw [getD_strs hs hj]
        have et : hs.take (j + 1) = hs.take j ++ [hs.getD j default] := by rw [List.take_succ, getD_at hj]; rfl
        generalize hs.getD j default = x at et ⊢
        have no : ¬ (x ∉ m ∧ x ∉ lackOf ps m) → Same H2 H6 ∧ H6 D1 = some (.lst ((nextOf ps m (hs.take (j + 1))).map V.str)) := fun c => by
          rw [et]
          unfold nextOf
          rw [List.filter_append, List.filter_cons, if_neg (by rw [decide_eq_false c]; exact Bool.false_ne_true)]
          exact ⟨s6, by rw [e6]; unfold nextOf; simp⟩
        refine ⟨rfl, _, rfl, _, rfl, M, _, rfl, .inr (.inl (.inl ((s2.trans s6) _ _ hM))), rfl, flat_strs m, _, rfl, ?_⟩
        rw [if_pos rfl, inV_txts]
        by_cases c : x ∈ m
        · rw [decide_eq_true c]
          exact iteF (iteF (no fun z => z.1 c))
        · rw [decide_eq_false c]
          refine iteT ⟨_, rfl, _, rfl, D, _, rfl, .k (k := .inr x) (s6 _ _ e2), _, rfl, ?_⟩
          rw [v2 x]
          by_cases c2 : x ∈ lackOf ps m
          · rw [decide_eq_true c2]
            exact iteF (no fun z => z.2 c2)
          · rw [decide_eq_false c2]
            refine iteT ⟨_, rfl, _, e6, ?_, same_mut s6 hD1, ?_⟩
            · rw [List.length_map]
              unfold nextOf
              exact small1000 (Nat.le_trans (List.length_filter_le _ _) (by rw [List.length_take]; omega))
            · rw [upd_same, et]
              unfold nextOf
              rw [List.filter_append, List.filter_cons, if_pos (decide_eq_true ⟨c, c2⟩), List.map_append]
              rfl
      · rintro H6 ⟨s6, e6⟩
        rw [lm, List.take_length] at e6
        have ln : (nextOf ps m hs).length ≤ 8 := Nat.le_trans (List.length_filter_le _ _) hl
        refine ⟨D1, nextOf ps m hs, rfl, .inl (SqL.of e6), by omega, fun zs p pz sz hp => ?_⟩
        have ndz : zs.Nodup := pz.nodup_iff.mpr ((py.nodup_iff.mp (srt_nodup srt)).sublist List.filter_sublist)
        have ez : zs = nextOf ps m ys := srt_eq (rises_of_sorted sz ndz) (srt.sublist List.filter_sublist) fun x => by
          rw [pz.mem_iff]
          unfold nextOf
          rw [List.mem_filter, List.mem_filter, py.mem_iff]
        rw [← ez] at k
        exact k p _ ((s2.trans s6).trans (same_new hp)) upd_same
end
end Ah
set_option Elab.async false
set_option linter.all false
set_option maxRecDepth 100000
set_option maxHeartbeats 4000000
namespace Ah
open PySem PySem.Spec PyProof.Rows L2
abbrev sCount : Stmt := topS 19
abbrev sOrders : Stmt := topS 21
/-- the hands that can come next -/
def nxO (ps : List (Str × Str)) (ys : List Str) : List Str → List Str := fun m => nextOf ps m ys
theorem nxO_mem {ps : List (Str × Str)} {ys m : List Str} {x : Str} : x ∈ nxO ps ys m ↔ x ∈ ys ∧ x ∉ m ∧ ∀ a, (a, x) ∈ ps → a ∈ m := by
  unfold nxO nextOf
  rw [List.mem_filter, decide_eq_true_iff, lackOf_mem]
  constructor
  · rintro ⟨h1, h2, h3⟩
    exact ⟨h1, h2, fun a ha => Classical.byContradiction fun n => h3 ⟨a, ha, n⟩⟩
  · rintro ⟨h1, h2, h3⟩
    exact ⟨h1, h2, fun ⟨a, ha, n⟩ => n (h3 a ha)⟩
theorem nx_ok {ps : List (Str × Str)} {ys row : List Str} (nd : ys.Nodup) (kr : KeepR row ps) (s : ∀ x y, (x, y) ∈ ps → x ∈ ys ∧ y ∈ ys) (l : ys.length ≤ 8) : Nx (nxO ps ys) ys where
  same := fun m m' e => by
    unfold nxO nextOf
    refine List.filter_congr fun x _ => ?_
    congr 1
    rw [lackOf_mem, lackOf_mem, e x]
    have : (∃ y, (y, x) ∈ ps ∧ y ∉ m) ↔ ∃ y, (y, x) ∈ ps ∧ y ∉ m' := ⟨fun ⟨y, h, n⟩ => ⟨y, h, fun z => n ((e y).mpr z)⟩, fun ⟨y, h, n⟩ => ⟨y, h, fun z => n ((e y).mp z)⟩⟩
    rw [this]
  some := fun m ndm sm lt e => by
    have ex : ∃ x ∈ ys, x ∉ m := Classical.byContradiction fun n => by
      have := nodup_sub_le (m := m) nd fun x hx => Classical.byContradiction fun z => n ⟨x, hx, z⟩
      omega
    obtain ⟨f, h1, h2, h3⟩ := laid_next (n := ys.length) (List.Perm.refl ys) s (peels_nil kr ys) ex
    have : f ∈ nxO ps ys m := nxO_mem.mpr ⟨h1, h2, h3⟩
    rw [e] at this
    cases this
  mem := fun m x h => ⟨(nxO_mem.mp h).1, (nxO_mem.mp h).2.1⟩
  few := fun m => Nat.le_trans (List.length_filter_le _ _) l
theorem nxO_srt {ps : List (Str × Str)} {ys m : List Str} (h : ys.Pairwise sLt) : (nxO ps ys m).Pairwise sLt := h.sublist List.filter_sublist
def keyL (m : List Str) : List Key := m.map Sum.inr
theorem keyL_kv (m : List Str) : (keyL m).map kV = m.map V.str := by
  unfold keyL
  rw [List.map_map]
  rfl
theorem keyL_inj {m m' : List Str} (h : keyL m = keyL m') : m = m' := by
  unfold keyL at h
  induction m generalizing m' with
  | nil =>
    cases m' with
    | nil => rfl
    | cons _ _ => cases h
  | cons x r ih =>
    cases m' with
    | nil => cases h
    | cons y t =>
      injection h with h1 h2
      rw [Sum.inr.inj h1, ih h2]
/-- the counts that stand in a dict -/
def CntD (ps : List (Str × Str)) (ys : List Str) (kvs : List (List Key × V)) : Prop :=
  ∀ m, m.Pairwise sLt → (∀ x ∈ m, x ∈ ys) → Hd ps m → valV kvs (keyL m) = some (.int ((cnt (nxO ps ys) (ys.length - m.length) m : Nat) : Int))
theorem sum_ints (l : List Nat) : (l.map fun n => ((n : Nat) : Int)).sum = ((sumN l : Nat) : Int) := by
  induction l with
  | nil => rfl
  | cons a r ih =>
    rw [List.map_cons, List.sum_cons, ih]
    show _ = ((a + sumN r : Nat) : Int)
    omega
theorem same_kp {d : Addr} {H H2 H3 : Hp} (s : Same H H2) (k : Kp d H2 H3) (h : H d = none) : Same H H3 := fun a o e => k a o (ne_of_none e h) (s a o e)
theorem sub_len {m ys : List Str} (h : m.Pairwise sLt) (s : ∀ x ∈ m, x ∈ ys) : m.length ≤ ys.length := nodup_sub_le (srt_nodup h) s
/-- a head and the next hand -/
theorem head_next {ps : List (Str × Str)} {ys m m' : List Str} {x : Str} (hm : Hd ps m) (hs : ∀ x ∈ m, x ∈ ys) (hx : x ∈ nxO ps ys m) (p : m'.Perm (m ++ [x])) : Hd ps m' ∧ (∀ y ∈ m', y ∈ ys) ∧ m'.length = m.length + 1 := by
  obtain ⟨h1, h2, h3⟩ := nxO_mem.mp hx
  refine ⟨fun q hq hb => ?_, fun y hy => ?_, ?_⟩
  · rw [p.mem_iff] at hb ⊢
    rcases List.mem_append.mp hb with z | z
    · exact List.mem_append_left _ (hm q hq z)
    · have e := List.mem_singleton.mp z
      exact List.mem_append_left _ (h3 q.1 (by rw [← e]; exact hq))
  · rcases List.mem_append.mp (p.mem_iff.mp hy) with z | z
    · exact hs y z
    · rw [List.mem_singleton.mp z]
      exact h1
  · rw [p.length_eq, List.length_append, List.length_singleton]
section
variable {P : Program} {w : World} {K : PySem.W.Frag} {mg : Str → Option Value} {base : Heap}
theorem scOrders : FnScope ["hands", "web", "counts", "head", "following", "hand"] ["hands", "web"] (defScope sOrders) := ⟨rfl, rfl, rfl, by decide +kernel, rfl, by decide +kernel, by decide +kernel⟩
def spOrders : Sp := fun vs H Q _ => ∃ (g t : Addr) (us : List V) (hs ys row : List Str) (ps : List (Str × Str)), vs = [.ref g, .ref t] ∧ LTu H g (hs.map V.str) ∧ WebAt H t us hs ps ∧ ys.Perm hs ∧ ys.Pairwise sLt ∧ hs.length ≤ 8 ∧ KeepR row ps ∧
  ∀ (d : Addr) (kvs : List (List Key × V)) (H' : Hp), Same H H' → H' d = some (.dT kvs) → CntD ps ys kvs → Q (.ref d) H'
theorem ok_orders {f f1 f2 f3 : Addr} {fd fd1 fd2 fd3 : FuncData} (F : Fun K "orders_behind" "orders_behind" sOrders f fd) (B : Blt2 mg) (Bs : mg "sum" = none) (D1 : Df P w K mg base CX0 "heads" 4 f1 fd1 ["hands", "web"] spHeads) (D2 : Df P w K mg base CX0 "free_behind" 1 f2 fd2 ["hands", "web", "head"] spFree) (D3 : Df P w K mg base CX0 "united" 1 f3 fd3 ["one", "other"] spUnited) :
    FnOk P w K mg base CX0 5 f fd ["hands", "web"] spOrders := by
  refine F.ok scOrders (fun vs H Q E h => ?_) (fun cdv A outer s H vs Q E hr h => ?_)
  · obtain ⟨g, t, us, hs, ys, row, ps, rfl, _⟩ := h
    rfl
  · obtain ⟨g, t, us, hs, ys, row, ps, rfl, hg, hw, py, srt, hl, kr, k⟩ := h
    have nd := scOrders.nd
    have hu := hu_of hr
    have hr1 : Room 1 _ := hr.mono (by decide)
    have hu64 : (A.deeper (envOfC "orders_behind" (defScope sOrders) s.heap.objs.size f cdv)).units + 64 < cLine := by
      have := hr.units
      omega
    refine ⟨_, pss_cons (ps_set (i := 2) nd rfl (.inr rfl) pe_dnewT)
      (pss_cons (ps_for PassesOwn.never rfl (pi_list (pe_sortLen hu64 (by rfl) B.sorted (by rfl) B.len (pa_cons (pe_call D1.ok hr rfl D1.g D1.kp D1.b .nil pass0 (pa_cons (pv 0) (pa_cons (pv 1) pa_nil))) pa_nil))) (pg_name (i := 3) nd rfl (.inr rfl))
        (pss_cons (ps_setLc (i := 4) (own := [("hand", 5)]) (g := gName 5) (tt := tYes) (te := tDGet (tVar 2) (tCall spUnited [] E0 (tCons (tVar 3) (tCons (tTup (tCons (tVar 5) tNil)) tNil)))) rfl nd rfl rfl (by rfl) (pi_list (pe_call D2.ok hr1 rfl D2.g D2.kp D2.b .nil pass0 (pa_cons (pv 0) (pa_cons (pv 1) (pa_cons (pv 3) pa_nil)))))
          (blkOk_by (N := ["hands", "web", "counts", "head", "following", "hand"]) (sc := defScope sOrders) (by decide +kernel)) (fun _ _ _ _ _ => pg_name (i := 5) nd rfl (Or.inl rfl)) (fun _ _ _ _ _ => pts_nil)
          (fun _ _ _ _ _ => pe_dget hu (pv 2) (pe_call D3.ok hr1 rfl D3.g D3.kp D3.b .nil pass0 (pa_cons (pv 3) (pa_cons (pe_tup (pa_cons (pv 5) pa_nil)) pa_nil))) (fun _ _ => rfl)))
        (pss_one (ps_dput hu (pv 2) (pv 3) (pe_ifExp (pt_truth (pv 4) (by intro _; rfl)) (pe_callB (cr_sum rfl) (by rfl) Bs (by decide +kernel) (pa_cons (pv 4) pa_nil)) pe_int) (by rfl)))))
      (pss_one (ps_ret (pv 2)))), ?_⟩
    have lys := py.length_eq
    have ndy := srt_nodup srt
    have iny : ∀ x y, (x, y) ∈ ps → x ∈ ys ∧ y ∈ ys := fun x y h => ⟨py.mem_iff.mpr (hw.mem x y h).1, py.mem_iff.mpr (hw.mem x y h).2.1⟩
    have N := nx_ok ndy kr iny (by omega)
    refine fun d hd => ?_
    have s0 : Same H (upd H d (.dT [])) := same_new hd
    have e0 : (upd H d (.dT [])) d = some (.dT []) := upd_same
    generalize upd H d (.dT []) = H0 at s0 e0
    refine ⟨_, rfl, _, rfl, g, t, us, hs, ys, ps, rfl, hg.same s0, hw.same s0, py, srt, hl, fun q vs ms H1 s1 hm lm eq hvs => ?_⟩
    refine ⟨q, vs, ms.map tD, rfl, SqL.of eq, hvs.dp, fun x hx => ?_, fun zs p pz pwz hp => ?_⟩
    · obtain ⟨m, hm', rfl⟩ := List.mem_map.mp hx
      refine ⟨_, rfl, ?_⟩
      have := ((hm m).mp hm').1.length_le
      rw [List.length_map]
      omega
    obtain ⟨ns, hns, pns, ens⟩ := txs_perm hvs pz
    have sp : Same H1 (upd H1 p (.lst (zs.map (·.1)))) := same_new hp
    have ep : (upd H1 p (.lst (zs.map (·.1)))) p = some (.lst (zs.map (·.1))) := upd_same
    have hns2 := hns.same sp
    have lns := Paired.length hns
    have desc : ∀ (i j : Nat) (a b : List Str), i < j → ns[i]? = some a → ns[j]? = some b → b.length ≤ a.length := fun i j a b hij ha hb => by
      have pw2 : (zs.map (·.2)).Pairwise fun x y => lenD y ≤ lenD x := List.pairwise_map.mpr pwz
      rw [ens] at pw2
      have hj := (List.getElem?_eq_some_iff.mp hb)
      have hi := (List.getElem?_eq_some_iff.mp ha)
      obtain ⟨hi1, hi2⟩ := hi
      obtain ⟨hj1, hj2⟩ := hj
      have := List.pairwise_iff_getElem.mp pw2 i j (by rw [List.length_map]; exact hi1) (by rw [List.length_map]; exact hj1) hij
      rw [List.getElem_map, List.getElem_map, hi2, hj2] at this
      have e1 : ∀ m : List Str, lenD (tD m) = m.length := fun m => by show (m.map PyData.str).length = _; rw [List.length_map]
      rw [e1, e1] at this
      exact this
    have hmn : ∀ m, m ∈ ns ↔ m.Sublist ys ∧ Hd ps m := fun m => pns.mem_iff.trans (hm m)
    have ln : ns.length ≤ 256 := by rw [pns.length_eq]; exact lm
    have e2 := sp _ _ (s1 _ _ e0)
    have s2 := (s0.trans s1).trans sp
    generalize upd H1 p (.lst (zs.map (·.1))) = H2 at ep hns2 e2 s2 ⊢
    generalize zs.map (·.1) = xs at ep hns2 lns ⊢
    clear pwz pz hp sp hns eq hvs ens
    have npd : p ≠ d := ne_of ep e2 fun z => nomatch z
    refine ⟨p, rfl, ⟨_, SqL.of ep⟩, ?_⟩
    refine for_list (K := K) (a := p) (xs := xs) (fun i σ H3 => ∃ (o3 o4 : Option V) (kvs : List (List Key × V)), σ = [some (.ref g), some (.ref t), some (.ref d), o3, o4, none] ∧ Kp d H2 H3 ∧ H3 d = some (.dT kvs) ∧ kvs.length ≤ i ∧
        ∀ j m, j < i → ns[j]? = some m → valV kvs (keyL m) = some (.int ((cnt (nxO ps ys) (ys.length - m.length) m : Nat) : Int)))
      ⟨none, none, [], rfl, Kp.refl _ _, e2, Nat.le_refl _, fun j m h => absurd h (Nat.not_lt_zero _)⟩ (fun i σ H3 _ ⟨_, _, _, _, kp, _⟩ => SqL.of (kp _ _ npd ep)) ?_ ?_
    · rintro i x σ H3 hx ⟨o3, o4, kvs, rfl, kp, ed, lk, vk⟩
      obtain ⟨m, hmi, M, rfl, eM2⟩ := hns2.get hx
      have nMd : M ≠ d := ne_of eM2 e2 fun z => nomatch z
      have eM := kp _ _ nMd eM2
      have hil := (List.getElem?_eq_some_iff.mp hmi).1
      obtain ⟨subm, hdm⟩ := (hmn m).mp (List.mem_of_getElem? hmi)
      have srtm : m.Pairwise sLt := srt.sublist subm
      have inm : ∀ x ∈ m, x ∈ ys := fun x hx => subm.subset hx
      have ndm := srt_nodup srtm
      have lm8 := subm.length_le
      have s3 := same_kp s2 kp hd
      have hw3 := hw.same s3
      refine ⟨_, rfl, _, rfl, _, rfl, g, t, .ref M, us, hs, ys, m, ps, rfl, hg.same s3, hw3.at', hw3.prs, ⟨M, rfl, eM⟩, hw3.few, py, srt, hl, fun q3 H4 s4 e4 => ?_⟩
      have e4' : H4 q3 = some (.lst ((nxO ps ys m).map V.str)) := e4
      refine ⟨q3, rfl, ⟨_, SqL.of e4'⟩, fun D hD => ?_⟩
      generalize hn : ys.length - m.length - 1 = n
      have few := N.few m
      refine lc_list (K := K) (a := q3) (xs := (nxO ps ys m).map V.str) (fun j H5 => Same H4 H5 ∧ H5 D = some (.lst ((((nxO ps ys m).take j).map fun x => cnt (nxO ps ys) n (m ++ [x])).map fun c => V.int ((c : Nat) : Int)))) ⟨same_new hD, upd_same⟩ (fun j H5 _ z => SqL.of (z.1 _ _ e4')) ?_ ?_
      · rintro j v H5 hv ⟨s5, eD⟩
        obtain ⟨x, hxj, rfl, _⟩ := str_at hv
        have hxm : x ∈ nxO ps ys m := List.mem_of_getElem? hxj
        obtain ⟨x1, x2, x3⟩ := nxO_mem.mp hxm
        have hjl := (List.getElem?_eq_some_iff.mp hxj).1
        have et : (nxO ps ys m).take (j + 1) = (nxO ps ys m).take j ++ [x] := by rw [List.take_succ, hxj]; rfl
        have s45 := s4.trans s5
        refine ⟨rfl, _, rfl, ?_⟩
        refine ⟨_, rfl, _, rfl, by show 1 ≤ sizeLine; decide, fun T hT => ?_⟩
        have sT : Same H5 (upd H5 T (.tup [.str x])) := same_new hT
        have eT : (upd H5 T (.tup [.str x])) T = some (.tup [.str x]) := upd_same
        generalize upd H5 T (.tup [.str x]) = H6 at sT eT ⊢
        refine ⟨M, T, m, x, rfl, .inl ((s45.trans sT) _ _ eM), .inl eT, by omega, ndm, x2, fun q' m' H7 s7 pm' srt' eq' => ?_⟩
        obtain ⟨hd', in', len'⟩ := head_next hdm inm hxm pm'
        have ed7 := ((s45.trans sT).trans s7) _ _ ed
        have eD7 := (sT.trans s7) _ _ eD
        obtain ⟨j', hj'⟩ := List.mem_iff_getElem?.mp ((hmn m').mpr ⟨srt_sub srt' srt in', hd'⟩)
        have lt' : j' < i := by
          rcases Nat.lt_trichotomy j' i with h | h | h
          · exact h
          · subst h
            rw [hmi] at hj'
            have := Option.some.inj hj'
            rw [← this] at len'
            omega
          · have := desc i j' m m' h hmi hj'
            omega
        have vv := vk j' m' lt' hj'
        have ec : cnt (nxO ps ys) (ys.length - m'.length) m' = cnt (nxO ps ys) n (m ++ [x]) := by
          rw [len', show ys.length - (m.length + 1) = n by omega]
          exact cnt_same N n fun y => pm'.mem_iff
        rw [ec] at vv
        have dg := DGet.t (k := keyL m') ed7 (by rw [keyL_kv]; exact eq')
        rw [vv] at dg
        refine ⟨d, _, rfl, dg, _, eD7, ?_, same_mut ((s5.trans sT).trans s7) hD, ?_⟩
        · rw [List.length_map, List.length_map, List.length_take]
          exact small1000 (by omega)
        · rw [upd_same, et, List.map_append, List.map_append]
          rfl
      · rintro H5 ⟨s5, eD⟩
        rw [List.length_map, List.take_length] at eD
        have s45 := s4.trans s5
        have ed5 := s45 _ _ ed
        have eM5 := s45 _ _ eM
        have lvm : ys.length = m.length + (ys.length - m.length) := by omega
        have val : ∀ v : Int, v = ((cnt (nxO ps ys) (ys.length - m.length) m : Nat) : Int) → sDPut (tVar 2) (tVar 3) (fun _ H Q => Q (.int v) H) { nx := fun σ H' => ∃ (o3 o4 : Option V) (kvs : List (List Key × V)), σ = [some (.ref g), some (.ref t), some (.ref d), o3, o4, none] ∧ Kp d H2 H' ∧ H' d = some (.dT kvs) ∧ kvs.length ≤ i + 1 ∧ ∀ j m, j < i + 1 → ns[j]? = some m → valV kvs (keyL m) = some (.int ((cnt (nxO ps ys) (ys.length - m.length) m : Nat) : Int)), rt := Q } [some (.ref g), some (.ref t), some (.ref d), some (.ref M), some (.ref D), none] H5 := fun v ev => by
          refine ⟨_, rfl, _, rfl, d, _, rfl, .t (k := keyL m) ed5 (by rw [keyL_kv]; exact eM5) (small1000 (by omega)), ?_⟩
          refine ⟨_, _, _, rfl, (kp.trans (Kp.same s45)).trans Kp.put, upd_same, ?_, fun j m2 hj hm2 => ?_⟩
          · have := length_putK kvs (keyL m) (.int v)
            omega
          · rw [valV_put]
            by_cases e : keyL m2 = keyL m
            · rw [if_pos e, keyL_inj e, ev]
            · rw [if_neg e]
              refine vk j m2 ?_ hm2
              rcases Nat.lt_succ_iff_lt_or_eq.mp hj with h | h
              · exact h
              · subst h
                rw [hmi] at hm2
                exact absurd (congrArg keyL (Option.some.inj hm2).symm) e
        refine ⟨_, rfl, _, .inl ⟨_, SqL.of eD, rfl⟩, ?_⟩
        by_cases e : nxO ps ys m = []
        · rw [e]
          refine iteF ?_
          refine val 1 ?_
          have : ys.length - m.length = 0 := Classical.byContradiction fun z => N.some m ndm inm (by omega) e
          rw [this]
          rfl
        · obtain ⟨n', hn'⟩ : ∃ n', ys.length - m.length = n' + 1 := ⟨n, by
            have : m.length < ys.length := Classical.byContradiction fun z => by
              have h0 := List.ne_nil_iff_exists_cons.mp e
              obtain ⟨a, r, ha⟩ := h0
              have ha' : a ∈ nxO ps ys m := by rw [ha]; exact List.mem_cons_self ..
              obtain ⟨a1, a2, _⟩ := nxO_mem.mp ha'
              have := nodup_sub_le (l := m ++ [a]) (m := ys) (by
                rw [List.nodup_append]
                exact ⟨ndm, List.nodup_cons.mpr ⟨List.not_mem_nil, List.nodup_nil⟩, fun y hy z hz e => a2 (by rw [← List.mem_singleton.mp hz, ← e]; exact hy)⟩) fun y hy => by
                rcases List.mem_append.mp hy with z | z
                · exact inm y z
                · rw [List.mem_singleton.mp z]; exact a1
              rw [List.length_append, List.length_singleton] at this
              omega
            omega⟩
          obtain rfl : n = n' := by omega
          rw [show (!(List.map (fun c => V.int ((c : Nat) : Int)) (List.map (fun x => cnt (nxO ps ys) n (m ++ [x])) (nxO ps ys m))).isEmpty) = true by
            cases h0 : nxO ps ys m with
            | nil => exact absurd h0 e
            | cons _ _ => rfl]
          refine iteT ⟨_, rfl, D, ((nxO ps ys m).map fun x => cnt (nxO ps ys) n (m ++ [x])).map fun c => ((c : Nat) : Int), rfl, SqL.of (by rw [eD]; simp [List.map_map, Function.comp_def]), ?_⟩
          rw [sum_ints]
          refine val _ ?_
          rw [hn']
          rfl
    · rintro σ H3 ⟨o3, o4, kvs, rfl, kp, ed, lk, vk⟩
      refine ⟨_, rfl, k d kvs H3 (same_kp s2 kp hd) ed fun m sm im hm' => ?_⟩
      obtain ⟨j, hj⟩ := List.mem_iff_getElem?.mp ((hmn m).mpr ⟨srt_sub sm srt im, hm'⟩)
      have := (List.getElem?_eq_some_iff.mp hj).1
      exact vk j m (by omega) hj
theorem scCount : FnScope ["hands", "web"] ["hands", "web"] (defScope sCount) := ⟨rfl, rfl, rfl, by decide +kernel, rfl, by decide +kernel, by decide +kernel⟩
def spCount : Sp := fun vs H Q _ => ∃ (g t : Addr) (us : List V) (hs ys row : List Str) (ps : List (Str × Str)), vs = [.ref g, .ref t] ∧ LTu H g (hs.map V.str) ∧ WebAt H t us hs ps ∧ ys.Perm hs ∧ ys.Pairwise sLt ∧ hs.length ≤ 8 ∧ KeepR row ps ∧
  ∀ (H' : Hp), Same H H' → Q (.int ((cnt (nxO ps ys) ys.length [] : Nat) : Int)) H'
theorem ok_count {f f1 : Addr} {fd fd1 : FuncData} (F : Fun K "count_rows" "count_rows" sCount f fd) (D : Df P w K mg base CX0 "orders_behind" 5 f1 fd1 ["hands", "web"] spOrders) : FnOk P w K mg base CX0 6 f fd ["hands", "web"] spCount := by
  refine F.ok scCount (fun vs H Q E h => ?_) (fun cdv A outer s H vs Q E hr h => ?_)
  · obtain ⟨g, t, us, hs, ys, row, ps, rfl, _⟩ := h
    rfl
  · obtain ⟨g, t, us, hs, ys, row, ps, rfl, hg, hw, py, srt, hl, kr, k⟩ := h
    have hu := hu_of hr
    refine ⟨_, pss_one (ps_ret (pe_dget hu (pe_call D.ok hr rfl D.g D.kp D.b .nil pass0 (pa_cons (pv 0) (pa_cons (pv 1) pa_nil))) (pe_tup pa_nil) (fun _ _ => rfl))), ?_⟩
    refine ⟨_, rfl, _, rfl, g, t, us, hs, ys, row, ps, rfl, hg, hw, py, srt, hl, kr, fun d kvs H1 s1 ed cd => ?_⟩
    refine ⟨by show 0 ≤ sizeLine; decide, fun T hT => ?_⟩
    have sT : Same H1 (upd H1 T (.tup [])) := same_new hT
    have dg := DGet.t (k := keyL []) (sT _ _ ed) (show (upd H1 T (.tup [])) T = some (.tup ((keyL []).map kV)) from upd_same)
    rw [cd [] List.Pairwise.nil (fun _ h => nomatch h) (fun _ _ h => nomatch h)] at dg
    exact ⟨d, _, rfl, dg, k _ (s1.trans sT)⟩
end
end Ah
set_option Elab.async false
set_option linter.all false
set_option maxRecDepth 100000
set_option maxHeartbeats 4000000
namespace Ah
open PySem PySem.Spec PyProof.Rows L2
abbrev sIsNumber : Stmt := topS 5
abbrev sRowAt : Stmt := topS 20
abbrev sStep : Stmt := topS 22
section
variable {P : Program} {w : World} {K : PySem.W.Frag} {mg : Str → Option Value} {base : Heap}
theorem scIsNumber : FnScope ["thing"] ["thing"] (defScope sIsNumber) := ⟨rfl, rfl, rfl, by decide +kernel, rfl, by decide +kernel, by decide +kernel⟩
def spIsNumber : Sp := fun vs H Q _ => ∃ i : Int, vs = [.int i] ∧ Q (.bl true) H
theorem ok_isNumber {f : Addr} {fd : FuncData} (F : Fun K "is_number" "is_number" sIsNumber f fd) (B : Blt2 mg) (Bi : mg "int" = none) (Bb : mg "bool" = none) : FnOk P w K mg base CX0 1 f fd ["thing"] spIsNumber := by
  refine F.ok scIsNumber (fun vs H Q E h => ?_) (fun cdv A outer s H vs Q E hr h => ?_)
  · obtain ⟨i, rfl, _⟩ := h
    rfl
  · obtain ⟨i, rfl, k⟩ := h
    refine ⟨_, pss_one (ps_ret (pe_and (pe_callB call_isi (by rfl) B.isinstance (by decide +kernel) (pa_cons (pv 0) (pa_cons (pe_bltn (v := .ty "int") (by rfl) Bi (by decide +kernel) rfl) pa_nil)))
      (pe_one (pe_not (pe_callB call_isi (by rfl) B.isinstance (by decide +kernel) (pa_cons (pv 0) (pa_cons (pe_bltn (v := .ty "bool") (by rfl) Bb (by decide +kernel) rfl) pa_nil))))))), ?_⟩
    exact ⟨_, rfl, .int i, .ty "int", _, _, true, rfl, .ty "int", .base (.int i), kit_ty (by decide +kernel), _, rfl, iteT ⟨_, rfl, .int i, .ty "bool", _, _, false, rfl, .ty "bool", .base (.int i), kit_ty (by decide +kernel), _, rfl, k⟩⟩
theorem scStep : FnScope ["hands", "web", "counts", "row", "number", "head", "nexts", "left", "k"] ["hands", "web", "counts", "row", "number"] (defScope sStep) := ⟨rfl, rfl, rfl, by decide +kernel, rfl, by decide +kernel, by decide +kernel⟩
def StepI (g t d r M q : Addr) (num : Nat) (H : Hp) (c : Str → Nat) (l : List Str) (m : Nat) (σ : L2.St) (H' : Hp) : Prop := ∃ (k left : Nat), σ = [some (.ref g), some (.ref t), some (.ref d), some (.ref r), some (.int (num : Int)), some (.ref M), some (.ref q), some (.int (left : Int)), some (.int (k : Int))] ∧ Same H H' ∧ k < l.length ∧ m = l.length - k ∧ left < sumN ((l.drop k).map c) ∧ pickF c l num = pickF c (l.drop k) left
def spStep : Sp := fun vs H Q _ => ∃ (g t d r : Addr) (us : List V) (hs ys row m : List Str) (ps : List (Str × Str)) (kvs : List (List Key × V)) (num n : Nat), vs = [.ref g, .ref t, .ref d, .ref r, .int (num : Int)] ∧ LTu H g (hs.map V.str) ∧ WebAt H t us hs ps ∧ ys.Perm hs ∧ ys.Pairwise sLt ∧ hs.length ≤ 8 ∧ KeepR row ps ∧
  H d = some (.dT kvs) ∧ CntD ps ys kvs ∧ H r = some (.tup (m.map V.str)) ∧ Lv ys (n + 1) m ∧ Hd ps m ∧ num < cnt (nxO ps ys) (n + 1) m ∧
  ∀ (x : Str) (j : Nat) (T : Addr) (H' : Hp), pickF (fun x => cnt (nxO ps ys) n (m ++ [x])) (nxO ps ys m) num = some (x, j) → j < cnt (nxO ps ys) n (m ++ [x]) → x ∈ nxO ps ys m → Same H H' → H' T = some (.tup [.str x, .int (j : Int)]) → Q (.ref T) H'
theorem ok_step {f f1 f2 : Addr} {fd fd1 fd2 : FuncData} (F : Fun K "step_at" "step_at" sStep f fd) (B : Blt2 mg) (D2 : Df P w K mg base CX0 "free_behind" 1 f1 fd1 ["hands", "web", "head"] spFree) (D3 : Df P w K mg base CX0 "united" 1 f2 fd2 ["one", "other"] spUnited) :
    FnOk P w K mg base CX0 2 f fd ["hands", "web", "counts", "row", "number"] spStep := by
  refine F.ok scStep (fun vs H Q E h => ?_) (fun cdv A outer s H vs Q E hr h => ?_)
  · obtain ⟨g, t, d, r, us, hs, ys, row, m, ps, kvs, num, n, rfl, _⟩ := h
    rfl
  · obtain ⟨g, t, d, r, us, hs, ys, row, m, ps, kvs, num, n, rfl, hg, hw, py, srt, hl, kr, hd, hc, hrow, lv, hdm, hnum, k⟩ := h
    have nd := scStep.nd
    have hu := hu_of hr
    refine ⟨_, pss_cons (ps_set (i := 5) nd rfl (.inl rfl) (pe_callTy call_tuple_of (by rfl) B.tuple (by decide +kernel) (pa_cons (pe_callB cr_sortedTS (by rfl) B.sorted (by decide +kernel) (pa_cons (pv 3) pa_nil)) pa_nil)))
      (pss_cons (ps_set (i := 6) nd rfl (.inl rfl) (pe_call D2.ok hr rfl D2.g D2.kp D2.b .nil pass0 (pa_cons (pv 0) (pa_cons (pv 1) (pa_cons (pv 5) pa_nil)))))
      (pss_cons (ps_set (i := 7) nd rfl (.inl rfl) (pv 4))
      (pss_cons (ps_set (i := 8) nd rfl (.inl rfl) pe_int)
      (pss_cons (ps_while PassesOwn.never (pt_cmpR op_ge (pv 7) (pe_dget hu (pv 2) (pe_call D3.ok hr rfl D3.g D3.kp D3.b .nil pass0 (pa_cons (pv 5) (pa_cons (pe_tup (pa_cons (pe_ix (r := rIxL K) ix_list (pv 6) (pv 8) (fun _ _ => rfl)) pa_nil)) pa_nil))) (fun _ _ => rfl)) (nomark _))
        (pss_cons (ps_set (i := 7) nd rfl (.inl rfl) (pe_op op_sub (pv 7) (pe_dget hu (pv 2) (pe_call D3.ok hr rfl D3.g D3.kp D3.b .nil pass0 (pa_cons (pv 5) (pa_cons (pe_tup (pa_cons (pe_ix (r := rIxL K) ix_list (pv 6) (pv 8) (fun _ _ => rfl)) pa_nil)) pa_nil))) (fun _ _ => rfl))))
        (pss_one (ps_set (i := 8) nd rfl (.inl rfl) (pe_op op_add (pv 8) pe_int)))))
      (pss_one (ps_ret (pe_tup (pa_cons (pe_ix (r := rIxL K) ix_list (pv 6) (pv 8) (fun _ _ => rfl)) (pa_cons (pv 7) pa_nil))))))))), ?_⟩
    have lys := py.length_eq
    have ndy := srt_nodup srt
    have iny : ∀ x y, (x, y) ∈ ps → x ∈ ys ∧ y ∈ ys := fun x y h => ⟨py.mem_iff.mpr (hw.mem x y h).1, py.mem_iff.mpr (hw.mem x y h).2.1⟩
    have N := nx_ok ndy kr iny (by omega)
    have lm := lv.len
    refine ⟨_, rfl, r, m, rfl, .inr (.inl (.inl hrow)), by omega, fun m0 p pm0 sm0 hp => ⟨p, m0.map V.str, rfl, .inl ⟨SqL.of upd_same, fun M hM => ?_⟩⟩⟩
    have srt0 : m0.Pairwise sLt := rises_of_sorted sm0 (pm0.nodup_iff.mpr lv.nd)
    have s1 : Same H (upd (upd H p (.lst (m0.map V.str))) M (.tup (m0.map V.str))) := (same_new hp).trans (same_new hM)
    have eM : (upd (upd H p (.lst (m0.map V.str))) M (.tup (m0.map V.str))) M = some (.tup (m0.map V.str)) := upd_same
    generalize upd (upd H p (.lst (m0.map V.str))) M (.tup (m0.map V.str)) = H1 at s1 eM ⊢
    have hw1 := hw.same s1
    refine ⟨_, rfl, _, rfl, _, rfl, g, t, .ref M, us, hs, ys, m0, ps, rfl, hg.same s1, hw1.at', hw1.prs, ⟨M, rfl, eM⟩, hw1.few, py, srt, hl, fun q H2 s2 eq => ?_⟩
    have enx : nextOf ps m0 ys = nxO ps ys m := N.same m0 m fun x => pm0.mem_iff
    rw [enx] at eq
    have hd0 : Hd ps m0 := fun z hz h => pm0.mem_iff.mpr (hdm z hz (pm0.mem_iff.mp h))
    have in0 : ∀ x ∈ m0, x ∈ ys := fun x hx => lv.sub x (pm0.mem_iff.mp hx)
    have l0 := pm0.length_eq
    have ed2 := s2 _ _ (s1 _ _ hd)
    have eM2 := s2 _ _ eM
    generalize hcc : (fun x => cnt (nxO ps ys) n (m ++ [x])) = c at k
    have ask : ∀ (kk : Nat) (x : Str) (H3 : Hp) (R : VK), (nxO ps ys m)[kk]? = some x → Same H2 H3 → (∀ H4, Same H2 H4 → R (.int ((c x : Nat) : Int)) H4) →
        ∀ T, H3 T = none → spUnited [.ref M, .ref T] (upd H3 T (.tup [.str x])) (fun y H5 => ∃ (a : Addr) (v : V), V.ref d = .ref a ∧ DGet H5 a y (some v) ∧ R v H5) E0 := fun kk x H3 R hx s3 hR T hT => by
      have hxm : x ∈ nxO ps ys m := List.mem_of_getElem? hx
      obtain ⟨x1, x2, x3⟩ := nxO_mem.mp hxm
      have sT : Same H3 (upd H3 T (.tup [.str x])) := same_new hT
      refine ⟨M, T, m0, x, rfl, .inl (sT _ _ (s3 _ _ eM2)), .inl upd_same, by omega, pm0.nodup_iff.mpr lv.nd, fun z => x2 (pm0.mem_iff.mp z), fun q' m' H5 s5 pm' srt' eq' => ?_⟩
      have hx0 : x ∈ nxO ps ys m0 := by
        rw [show nxO ps ys m0 = nxO ps ys m from enx]
        exact hxm
      obtain ⟨hd', in', len'⟩ := head_next hd0 in0 hx0 pm'
      have ed5 := ((s3.trans sT).trans s5) _ _ ed2
      have dg := DGet.t (k := keyL m') ed5 (by rw [keyL_kv]; exact eq')
      have vv := hc m' srt' in' hd'
      have ec : cnt (nxO ps ys) (ys.length - m'.length) m' = c x := by
        rw [← hcc, len', l0, show ys.length - (m.length + 1) = n by omega]
        refine cnt_same N n fun y => ?_
        rw [pm'.mem_iff, List.mem_append, List.mem_append, pm0.mem_iff]
      rw [ec] at vv
      rw [vv] at dg
      exact ⟨d, _, rfl, dg, hR H5 ((s3.trans sT).trans s5)⟩
    refine ⟨_, rfl, ?_⟩
    have hsum : num < sumN ((nxO ps ys m).map c) := by rw [← hcc]; exact hnum
    have ne0 : 0 < (nxO ps ys m).length := by
      cases h0 : nxO ps ys m with
      | nil =>
        rw [h0] at hsum
        exact absurd hsum (Nat.not_lt_zero _)
      | cons _ _ => exact Nat.succ_pos _
    refine ⟨StepI g t d r M q num H2 c (nxO ps ys m), ⟨_, 0, num, rfl, Same.refl _, ne0, rfl, hsum, rfl⟩, ?_⟩
    rintro mm σ H3 ⟨kk, left, rfl, s3, hk, rfl, hsl, hpk⟩
    obtain ⟨x, hx⟩ : ∃ x, (nxO ps ys m)[kk]? = some x := ⟨_, List.getElem?_eq_getElem hk⟩
    have edrop : (nxO ps ys m).drop kk = x :: (nxO ps ys m).drop (kk + 1) := by
      obtain ⟨h1, h2⟩ := List.getElem?_eq_some_iff.mp hx
      rw [← h2]
      exact List.drop_eq_getElem_cons h1
    have atq : ∀ H4, Same H2 H4 → ∃ v, atI ((nxO ps ys m).map V.str) ((kk : Nat) : Int) = some v ∧ v = .str x ∧ H4 q = some (.lst ((nxO ps ys m).map V.str)) := fun H4 s4 => ⟨_, atI_nat (by rw [List.getElem?_map, hx]; rfl), rfl, s4 _ _ eq⟩
    have xm : x ∈ nxO ps ys m := List.mem_of_getElem? hx
    rw [edrop] at hsl hpk
    have hsl' : left < c x + sumN (((nxO ps ys m).drop (kk + 1)).map c) := hsl
    refine ⟨_, rfl, _, rfl, _, rfl, _, rfl, _, rfl, q, _, ((kk : Nat) : Int), .str x, rfl, rfl, SqL.of (s3 _ _ eq), atI_nat (by rw [List.getElem?_map, hx]; rfl), by show 1 ≤ sizeLine; decide, ask kk x H3 _ hx s3 fun H4 s4 => ?_⟩
    refine ⟨_, _, rfl, rfl, _, rfl, ?_⟩
    by_cases hle : c x ≤ left
    · rw [decide_eq_true (show ((c x : Nat) : Int) ≤ ((left : Nat) : Int) by omega)]
      refine iteT ⟨StepI g t d r M q num H2 c (nxO ps ys m) ((nxO ps ys m).length - (kk + 1)), fun σ' H' z => ⟨_, by omega, z⟩, ?_⟩
      refine ⟨_, rfl, _, rfl, _, rfl, _, rfl, _, rfl, q, _, ((kk : Nat) : Int), .str x, rfl, rfl, SqL.of (s4 _ _ eq), atI_nat (by rw [List.getElem?_map, hx]; rfl), by show 1 ≤ sizeLine; decide, ask kk x H4 _ hx s4 fun H5 s5 => ?_⟩
      refine ⟨_, _, rfl, rfl, _, rfl, _, _, rfl, rfl, ?_⟩
      have hk' : kk + 1 < (nxO ps ys m).length := by
        refine Classical.byContradiction fun z => ?_
        have : ((nxO ps ys m).drop (kk + 1)) = [] := List.drop_eq_nil_iff.mpr (by omega)
        rw [this] at hsl'
        have e0 : sumN (([] : List Str).map c) = 0 := rfl
        omega
      refine ⟨kk + 1, left - c x, ?_, s5, hk', rfl, by omega, ?_⟩
      · have e7 : ((left : Nat) : Int) - ((c x : Nat) : Int) = ((left - c x : Nat) : Int) := by omega
        show [some (V.ref g), some (.ref t), some (.ref d), some (.ref r), some (.int (num : Int)), some (.ref M), some (.ref q), some (.int (((left : Nat) : Int) - ((c x : Nat) : Int))), some (.int ((kk : Int) + 1))] = _
        rw [e7]
        rfl
      · rw [hpk]
        show (if left < c x then _ else _) = _
        rw [if_neg (by omega)]
    · rw [decide_eq_false (show ¬ ((c x : Nat) : Int) ≤ ((left : Nat) : Int) by omega)]
      refine iteF ⟨_, rfl, _, rfl, q, _, ((kk : Nat) : Int), .str x, rfl, rfl, SqL.of (s4 _ _ eq), atI_nat (by rw [List.getElem?_map, hx]; rfl), _, rfl, by show 2 ≤ sizeLine; decide, fun T hT => ?_⟩
      refine k x left T _ ?_ ?_ xm ((s1.trans s2).trans (s4.trans (same_new hT))) upd_same
      · rw [hpk]
        exact if_pos (by omega)
      · have h2 : cnt (nxO ps ys) n (m ++ [x]) = c x := congrFun hcc x
        omega
theorem scRowAt : FnScope ["hands", "web", "number", "counts", "row", "left", "_", "hand"] ["hands", "web", "number"] (defScope sRowAt) := ⟨rfl, rfl, rfl, by decide +kernel, rfl, by decide +kernel, by decide +kernel⟩
def spRowAt : Sp := fun vs H Q _ => ∃ (g t : Addr) (us : List V) (hs ys row : List Str) (ps : List (Str × Str)) (num : Nat), vs = [.ref g, .ref t, .int (num : Int)] ∧ LTu H g (hs.map V.str) ∧ WebAt H t us hs ps ∧ ys.Perm hs ∧ ys.Pairwise sLt ∧ hs.length ≤ 8 ∧ KeepR row ps ∧ num < cnt (nxO ps ys) ys.length [] ∧
  ∀ (r : Addr) (H' : Hp), Same H H' → H' r = some (.tup ((rowF (nxO ps ys) ys.length [] num).map V.str)) → Q (.ref r) H'
theorem ok_rowAt {f f1 f2 f3 : Addr} {fd fd1 fd2 fd3 : FuncData} (F : Fun K "row_at" "row_at" sRowAt f fd) (D1 : Df P w K mg base CX0 "orders_behind" 5 f1 fd1 ["hands", "web"] spOrders) (D2 : Df P w K mg base CX0 "is_number" 1 f2 fd2 ["thing"] spIsNumber) (D3 : Df P w K mg base CX0 "step_at" 2 f3 fd3 ["hands", "web", "counts", "row", "number"] spStep) :
    FnOk P w K mg base CX0 6 f fd ["hands", "web", "number"] spRowAt := by
  refine F.ok scRowAt (fun vs H Q E h => ?_) (fun cdv A outer s H vs Q E hr h => ?_)
  · obtain ⟨g, t, us, hs, ys, row, ps, num, rfl, _⟩ := h
    rfl
  · obtain ⟨g, t, us, hs, ys, row, ps, num, rfl, hg, hw, py, srt, hl, kr, hnum, k⟩ := h
    have nd := scRowAt.nd
    have hu := hu_of hr
    have hr1 : Room 1 _ := hr.mono (by decide)
    have hr2 : Room 2 _ := hr.mono (by decide)
    refine ⟨_, pss_cons (ps_set (i := 3) nd rfl (.inl rfl) (pe_call D1.ok hr rfl D1.g D1.kp D1.b .nil pass0 (pa_cons (pv 0) (pa_cons (pv 1) pa_nil))))
      (pss_cons (ps_if (PW.pt (pw_or (pt_not (pt_val (pe_call D2.ok hr1 rfl D2.g D2.kp D2.b .nil pass0 (pa_cons (pv 2) pa_nil)))) (pw_or1 (pt_not (pt_chain op_le op_lt pe_int (pv 2) (pe_dget hu (pv 3) (pe_tup pa_nil) (fun _ _ => rfl))))))) pss_dead pss_nil)
      (pss_cons (ps_set (i := 4) nd rfl (.inl rfl) (pe_tup pa_nil))
      (pss_cons (ps_set (i := 5) nd rfl (.inl rfl) (pv 2))
      (pss_cons (ps_for PassesOwn.never rfl (pi_or (pi_list (pv 0)) (pi_tup (pv 0))) (pg_name (i := 6) nd rfl (.inl rfl))
        (pss_cons (ps_asg (pe_call D3.ok hr2 rfl D3.g D3.kp D3.b .nil pass0 (pa_cons (pv 0) (pa_cons (pv 1) (pa_cons (pv 3) (pa_cons (pv 4) (pa_cons (pv 5) pa_nil)))))) (pg_tup rfl (pgs_cons (pg_name (i := 7) nd rfl (.inl rfl)) (pgs_cons (pg_name (i := 5) nd rfl (.inl rfl)) pgs_nil))))
        (pss_one (ps_set (i := 4) nd rfl (.inl rfl) (pe_op (r := rCatA K) op_catA (pv 4) (pe_tup (pa_cons (pv 7) pa_nil)))))))
      (pss_one (ps_ret (pv 4))))))), ?_⟩
    have lys := py.length_eq
    have ndy := srt_nodup srt
    have iny : ∀ x y, (x, y) ∈ ps → x ∈ ys ∧ y ∈ ys := fun x y h => ⟨py.mem_iff.mpr (hw.mem x y h).1, py.mem_iff.mpr (hw.mem x y h).2.1⟩
    have N := nx_ok ndy kr iny (by omega)
    refine ⟨_, rfl, _, rfl, g, t, us, hs, ys, row, ps, rfl, hg, hw, py, srt, hl, kr, fun d kvs H1 s1 ed cd => ?_⟩
    refine ⟨_, rfl, _, rfl, ⟨_, rfl, ?_⟩⟩
    refine iteF ⟨_, rfl, _, _, rfl, rfl, _, rfl, ?_⟩
    rw [decide_eq_true (show (0 : Int) ≤ ((num : Nat) : Int) by omega)]
    refine iteT ⟨_, rfl, by show 0 ≤ sizeLine; decide, fun T0 hT0 => ?_⟩
    have sT0 : Same H1 (upd H1 T0 (.tup [])) := same_new hT0
    have dg := DGet.t (k := keyL []) (sT0 _ _ ed) (show (upd H1 T0 (.tup [])) T0 = some (.tup ((keyL []).map kV)) from upd_same)
    rw [cd [] List.Pairwise.nil (fun _ h => nomatch h) (fun _ _ h => nomatch h)] at dg
    generalize upd H1 T0 (.tup []) = H2 at sT0 dg ⊢
    refine ⟨d, _, rfl, dg, _, _, rfl, rfl, ?_⟩
    have e1 : decide (((num : Nat) : Int) < ((cnt (nxO ps ys) (ys.length - ([] : List Str).length) [] : Nat) : Int)) = true := decide_eq_true (by
      rw [show ys.length - ([] : List Str).length = ys.length from rfl]
      omega)
    refine ⟨true, congrArg V.bl e1, iteF ⟨by show 0 ≤ sizeLine; decide, fun r0 hr0 => ?_⟩⟩
    have sr0 : Same H2 (upd H2 r0 (.tup [])) := same_new hr0
    have er0 : (upd H2 r0 (.tup [])) r0 = some (.tup []) := upd_same
    generalize upd H2 r0 (.tup []) = H3 at sr0 er0 ⊢
    have s3 := (s1.trans sT0).trans sr0
    have ed3 := (sT0.trans sr0) _ _ ed
    refine ⟨_, rfl, ?_⟩
    refine iOr_by2 (fun Q q => ⟨_, rfl, q⟩) s3 hg fun J L G hL => ?_
    have lm : (hs.map V.str).length = hs.length := List.length_map ..
    refine for_gen G (fun i σ H4 => ∃ (o6 o7 : Option V) (r : Addr) (m : List Str) (left : Nat), σ = [some (.ref g), some (.ref t), some (.int (num : Int)), some (.ref d), some (.ref r), some (.int (left : Int)), o6, o7] ∧ Same H3 H4 ∧ H4 r = some (.tup (m.map V.str)) ∧ m.length = i ∧ Lv ys (ys.length - i) m ∧ Hd ps m ∧
        left < cnt (nxO ps ys) (ys.length - i) m ∧ m ++ rowF (nxO ps ys) (ys.length - i) m left = rowF (nxO ps ys) ys.length [] num)
      ⟨none, none, r0, [], num, rfl, Same.refl _, er0, rfl, Lv.nil, (fun _ _ h => nomatch h), hnum, rfl⟩ (fun i σ H4 _ ⟨_, _, _, _, _, _, z, _⟩ => G.keep _ _ (s3.trans z) hL) ?_ ?_
    · rintro i σ H4 hi ⟨o6, o7, r, m, left, rfl, s4, er, lmi, lv, hdm, hlt, hrow⟩
      rw [lm] at hi
      obtain ⟨n, hn⟩ : ∃ n, ys.length - i = n + 1 := ⟨ys.length - i - 1, by omega⟩
      rw [hn] at lv hlt hrow
      have s34 := s3.trans s4
      refine ⟨_, rfl, _, rfl, _, rfl, _, rfl, _, rfl, g, t, d, r, us, hs, ys, row, m, ps, kvs, left, n, rfl, hg.same s34, hw.same s34, py, srt, hl, kr, s4 _ _ ed3, cd, er, lv, hdm, hlt, fun x j T H5 hp hj hx s5 eT => ?_⟩
      refine ⟨T, _, rfl, .inl (.inl eT), rfl, _, _, rfl, _, _, rfl, rfl, ?_⟩
      refine ⟨_, rfl, _, rfl, by show 1 ≤ sizeLine; decide, fun B2 hB2 => ?_⟩
      have s6 : Same H5 (upd H5 B2 (.tup [.str x])) := same_new hB2
      have lv' := lv.step N hx
      have hd' : Hd ps (m ++ [x]) := (head_next hdm lv.sub hx (List.Perm.refl _)).1
      have en : ys.length - (i + 1) = n := by omega
      have l8 := lv.len
      have fin : ∀ (c : Addr) (H6 : Hp), Same H5 H6 → H6 c = some (.tup ((m ++ [x]).map V.str)) → ∃ (o6' o7' : Option V) (r' : Addr) (m' : List Str) (left' : Nat), [some (V.ref g), some (.ref t), some (.int (num : Int)), some (.ref d), some (.ref c), some (.int (j : Int)), some ((hs.map V.str).getD i .non), some (.str x)] = [some (.ref g), some (.ref t), some (.int (num : Int)), some (.ref d), some (.ref r'), some (.int (left' : Int)), o6', o7'] ∧ Same H3 H6 ∧ H6 r' = some (.tup (m'.map V.str)) ∧ m'.length = i + 1 ∧ Lv ys (ys.length - (i + 1)) m' ∧ Hd ps m' ∧
        left' < cnt (nxO ps ys) (ys.length - (i + 1)) m' ∧ m' ++ rowF (nxO ps ys) (ys.length - (i + 1)) m' left' = rowF (nxO ps ys) ys.length [] num := fun c H6 s ec => by
        refine ⟨_, _, c, m ++ [x], j, rfl, s4.trans (s5.trans s), ec, by rw [List.length_append, List.length_singleton, lmi], ?_, hd', ?_, ?_⟩
        · rw [en]; exact lv'
        · rw [en]; exact hj
        · rw [en, ← hrow, rowF_eq hp]
          simp
      refine ⟨r, B2, m.map V.str, [.str x], rfl, rfl, .inl (.inl ((s5.trans s6) _ _ er)), .inl (.inl upd_same), ?_, fun e0 => ?_, fun _ e1 => ?_, fun _ _ c hc => ?_⟩
      · rw [List.length_map]
        exact Nat.le_of_lt (small1000 (by show m.length + 1 ≤ 1000; omega))
      · have : m = [] := List.map_eq_nil_iff.mp e0
        subst this
        exact fin B2 _ s6 upd_same
      · cases e1
      · have s7 : Same (upd H5 B2 (.tup [.str x])) (upd (upd H5 B2 (.tup [.str x])) c (.tup (m.map V.str ++ [.str x]))) := same_new hc
        refine fin c _ (s6.trans s7) ?_
        rw [upd_same, List.map_append]
        rfl
    · rintro σ H4 ⟨o6, o7, r, m, left, rfl, s4, er, lmi, lv, hdm, hlt, hrow⟩
      rw [lm] at hrow
      have e0 : ys.length - hs.length = 0 := by omega
      rw [e0] at hrow
      have : m = rowF (nxO ps ys) ys.length [] num := by
        rw [← hrow]
        show m = m ++ []
        rw [List.append_nil]
      refine ⟨_, rfl, k r H4 (s3.trans s4) ?_⟩
      rw [← this]
      exact er
end
end Ah
set_option Elab.async false
set_option linter.all false
set_option maxRecDepth 100000
set_option maxHeartbeats 4000000
namespace Ah
open PySem PySem.Spec PyProof.Rows L2
abbrev sLawClosed : Stmt := topS 33
abbrev sLawWeb : Stmt := topS 34
/-! ### dicts of pairs put together -/
def putAll (ks ps : List (Str × Str)) : List (Str × Str) := ps.foldl putP ks
theorem putAll_mem : ∀ (ps ks : List (Str × Str)) (q : Str × Str), q ∈ putAll ks ps ↔ q ∈ ks ∨ q ∈ ps
  | [], ks, q => by simp [putAll]
  | p :: r, ks, q => by
    show q ∈ putAll (putP ks p) r ↔ _
    rw [putAll_mem r, putP_mem, List.mem_cons, or_assoc]
theorem putAll_nodup : ∀ (ps : List (Str × Str)) {ks : List (Str × Str)}, ks.Nodup → (putAll ks ps).Nodup
  | [], _, h => h
  | p :: r, _, h => putAll_nodup r (putP_nodup h)
theorem merge_kvs : ∀ (ps ks : List (Str × Str)), mergeT (kvsOf ks) (kvsOf ps) = kvsOf (putAll ks ps)
  | [], ks => rfl
  | p :: r, ks => by
    show mergeT (putK (kvsOf ks) (keyP p) (V.bl true)) (kvsOf r) = _
    rw [putK_kvs, merge_kvs r]
    rfl
/-- an item of a list: a pair of a pair and True -/
def TrP (H : Hp) (v : V) (p : Str × Str) : Prop := ∃ A T : Addr, v = .ref A ∧ H A = some (.tup [.ref T, .bl true]) ∧ H T = some (.tup [.str p.1, .str p.2])
abbrev TrsP (H : Hp) : List V → List (Str × Str) → Prop := Paired (TrP H)
theorem TrP.mut {H : Hp} {D : Addr} {a b : List V} (hD : H D = some (.lst a)) {v : V} {p : Str × Str} (h : TrP H v p) : TrP (upd H D (.lst b)) v p := by
  obtain ⟨A, T, e, h1, h2⟩ := h
  exact ⟨A, T, e, (upd_ne (ne_of h1 hD fun z => nomatch z)).trans h1, (upd_ne (ne_of h2 hD fun z => nomatch z)).trans h2⟩
theorem TrP.same {H H' : Hp} {v : V} {p : Str × Str} (k : Same H H') (h : TrP H v p) : TrP H' v p := by
  obtain ⟨A, T, e, h1, h2⟩ := h
  exact ⟨A, T, e, k _ _ h1, k _ _ h2⟩
theorem TrsP.app {H : Hp} : ∀ {vs ws : List V} {ps qs : List (Str × Str)}, TrsP H vs ps → TrsP H ws qs → TrsP H (vs ++ ws) (ps ++ qs)
  | _, _, _, _, .nil, k => k
  | _, _, _, _, .cons h t, k => .cons h (TrsP.app t k)
theorem TrsP.trs {K : PySem.W.Frag} {H : Hp} : ∀ {vs : List V} {ps : List (Str × Str)}, TrsP H vs ps → ∃ (as : List Addr) (qs : List (Addr × List Key × V)), vs = as.map V.ref ∧ TrsAt K H as qs ∧ qs.map (·.2) = kvsOf ps
  | _, _, .nil => ⟨[], [], rfl, .nil, rfl⟩
  | _, _, .cons (b := p) h t => by
    obtain ⟨as, qs, h1, h2, h3⟩ := TrsP.trs (K := K) t
    obtain ⟨A, T, rfl, hA, hT⟩ := h
    exact ⟨A :: as, (T, keyP p, .bl true) :: qs, by rw [h1]; rfl, .cons ⟨.inl (.inl hA), hT⟩ h2, by rw [List.map_cons, h3]; rfl⟩
/-- what the pairs of one turn are -/
def turnOf (ds : List (Str × Str)) (i : Nat) (ks : List (Str × Str)) (q : Str × Str) : Prop := q ∈ ks ∨ ∃ j p, j < i ∧ ds[j]? = some p ∧ q.1 = p.1 ∧ (p.2, q.2) ∈ ds
theorem PrsV.kpd {d : Addr} {H H' : Hp} (k : Kp d H H') {kvs : List (List Key × V)} (hd : H d = some (.dT kvs)) {vs : List V} {ps : List (Str × Str)} (h : PrsV H vs ps) : PrsV H' vs ps := h.imp fun v p ⟨T, e, hT⟩ => ⟨T, e, k _ _ (ne_of hT hd fun z => nomatch z) hT⟩
theorem prs_few {ks : List (Str × Str)} {ys : List Str} (nd : ks.Nodup) (h : ∀ a c, (a, c) ∈ ks → a ∈ ys ∧ c ∈ ys) (l : ys.length ≤ 8) : ks.length ≤ 64 := by
  have h1 := nodup_sub_le (m := dueOf (fun _ _ => true) ys) nd fun p hp => dueOf_mem.mpr ⟨(h p.1 p.2 hp).1, (h p.1 p.2 hp).2, rfl⟩
  have h2 := dueOf_len (R := fun _ _ => true) (hs := ys)
  have h3 : ys.length * ys.length ≤ 8 * 8 := Nat.mul_le_mul l l
  omega
section
variable {P : Program} {w : World} {K : PySem.W.Frag} {mg : Str → Option Value} {base : Heap}
theorem scLawClosed : FnScope ["pairs", "found", "turn", "some", "a", "b", "pair"] ["pairs"] (defScope sLawClosed) := ⟨rfl, rfl, rfl, by decide +kernel, rfl, by decide +kernel, by decide +kernel⟩
def spLawClosed : Sp := fun vs H Q _ => ∃ (a : Addr) (us : List V) (ps : List (Str × Str)) (row ys : List Str), vs = [.ref a] ∧ H a = some (.lst us) ∧ PrsV H us ps ∧ ps.length ≤ 64 ∧ KeepR row ps ∧ row.length ≤ 8 ∧ ys.Pairwise sLt ∧ ys.length ≤ 8 ∧ (∀ x y, (x, y) ∈ ps → x ∈ ys ∧ y ∈ ys) ∧
  ∀ (t : Addr) (ws : List V) (ds : List (Str × Str)) (H' : Hp), Same H H' → WebAt H' t ws ys ds → KeepR row ds → Q (.ref t) H'
theorem ok_lawClosed {f : Addr} {fd : FuncData} (F : Fun K "_law_closed" "_law_closed" sLawClosed f fd) (B : Blt2 mg) : FnOk P w K mg base CX0 1 f fd ["pairs"] spLawClosed := by
  refine F.ok scLawClosed (fun vs H Q E h => ?_) (fun cdv A outer s H vs Q E hr h => ?_)
  · obtain ⟨a, us, ps, row, ys, rfl, _⟩ := h
    rfl
  · obtain ⟨a, us, ps, row, ys, rfl, ha, hps, lp, kr, lrow, srt, ly, iny, k⟩ := h
    have nd := scLawClosed.nd
    have hu3 : (A.deeper (envOfC "_law_closed" (defScope sLawClosed) s.heap.objs.size f cdv)).units + 3 < cLine := by
      have := hr.units
      omega
    have hu1 : (A.deeper (envOfC "_law_closed" (defScope sLawClosed) s.heap.objs.size f cdv)).units + 1 < cLine := by
      omega
    have hu64 : (A.deeper (envOfC "_law_closed" (defScope sLawClosed) s.heap.objs.size f cdv)).units + 64 < cLine := by
      have := hr.units
      omega
    refine ⟨_, pss_cons (ps_set (i := 1) nd rfl (.inl rfl) (pe_callTy (call_dictPT rfl hu3) (by rfl) B.dict (by decide +kernel) (pa_cons (pe_lc (own := [("pair", 6)]) (g := gName 6) (tt := tYes) (te := tTup (tCons (tVar 6) (tCons (tC (.bl true)) tNil))) rfl nd (pi_list (pv 0))
          (blkOk_by (N := ["pairs", "found", "turn", "some", "a", "b", "pair"]) (sc := defScope sLawClosed) (by decide +kernel)) (fun _ _ _ _ _ => pg_name (i := 6) nd rfl (Or.inl rfl)) (fun _ _ _ _ _ => pts_nil)
          (fun _ _ _ _ _ => pe_tup (pa_cons (pv 6) (pa_cons pe_bl pa_nil)))) pa_nil)))
      (pss_cons (ps_for PassesOwn.never rfl (pi_range1 rfl B.range (pa_cons pe_int pa_nil)) (pg_name (i := 2) nd rfl (.inl rfl))
        (pss_cons (ps_set (i := 3) nd rfl (.inl rfl) (pe_callB (cr_sortedT rfl hu64) (by rfl) B.sorted (by decide +kernel) (pa_cons (pv 1) pa_nil)))
        (pss_one (ps_for PassesOwn.never rfl (pi_list (pv 3)) (pg_tup rfl (pgs_cons (pg_name (i := 4) nd rfl (.inr rfl)) (pgs_cons (pg_name (i := 5) nd rfl (.inr rfl)) pgs_nil)))
          (pss_one (ps_expr (pe_bm PySem.F.plainAttrs_dict PySem.F.slot_dict_update PySem.F.type_dict_update (mt_updT hu1) (pv 1) (pa_cons (pe_callTy (call_dictPT rfl hu3) (by rfl) B.dict (by decide +kernel) (pa_cons (pe_lc (own := [("pair", 6)]) (g := gName 6) (tt := tTest (tOp rEq (tOp (rIxT K) (tVar 6) (tC (.int 0))) (tVar 5))) (te := tTup (tCons (tTup (tCons (tVar 4) (tCons (tOp (rIxT K) (tVar 6) (tC (.int 1))) tNil))) (tCons (tC (.bl true)) tNil))) rfl nd (pi_list (pv 3))
            (blkOk_by (N := ["pairs", "found", "turn", "some", "a", "b", "pair"]) (sc := defScope sLawClosed) (by decide +kernel)) (fun _ _ _ _ _ => pg_name (i := 6) nd rfl (Or.inl rfl))
            (fun _ _ _ _ _ => pts_one (pt_cmpR op_eq (pe_ix (r := rIxT K) ix_tup (pv 6) pe_int (fun _ _ => rfl)) (pv 5) (nomark _)))
            (fun _ _ _ _ _ => pe_tup (pa_cons (pe_tup (pa_cons (pv 4) (pa_cons (pe_ix (r := rIxT K) ix_tup (pv 6) pe_int (fun _ _ => rfl)) pa_nil))) (pa_cons pe_bl pa_nil)))) pa_nil)) pa_nil))))))))
      (pss_one (ps_ret (pe_callTy call_tuple_of (by rfl) B.tuple (by decide +kernel) (pa_cons (pe_callB (cr_sortedT rfl hu64) (by rfl) B.sorted (by decide +kernel) (pa_cons (pv 1) pa_nil)) pa_nil))))), ?_⟩
    have lu := hps.len
    -- sorted(found)
    have sorts : ∀ (d : Addr) (ks : List (Str × Str)) (H1 : Hp) (R : VK), H1 d = some (.dT (kvsOf ks)) → ks.Nodup → (∀ x y, (x, y) ∈ ks → x ∈ ys ∧ y ∈ ys) →
        (∀ (p : Addr) (ws : List V) (ds : List (Str × Str)) (H2 : Hp), Same H1 H2 → H2 p = some (.lst ws) → PrsV H2 ws ds → ds.Pairwise pLt → (∀ q, q ∈ ds ↔ q ∈ ks) → ds.length ≤ 64 → R (.ref p) H2) → rSortedT K [.ref d] H1 R := fun d ks H1 R ed ndk ink kk => by
      have few := prs_few ndk ink ly
      refine ⟨d, kvsOf ks, rfl, .inl ed, ?_, ?_, ?_, ?_, fun bs zs p isk pm e hp => ?_⟩
      · rw [keyD_kvs]; exact prs_alike ks
      · rw [keyD_kvs]; exact prs_sortable ks
      · rw [keyD_kvs]; exact prs_depth ks
      · rw [kvs_len]; omega
      rw [keyD_kvs] at pm e
      have mem : ∀ q, q ∈ ks ↔ q ∈ dueOf (fun x y => decide ((x, y) ∈ ks)) ys := fun q => by
        rw [dueOf_mem, decide_eq_true_iff]
        exact ⟨fun h => ⟨(ink q.1 q.2 h).1, (ink q.1 q.2 h).2, h⟩, fun h => h.2.2⟩
      have ri := dueOf_rises (R := fun x y => decide ((x, y) ∈ ks)) srt
      rw [sort_due ndk mem ri] at e
      have due := keys_sorted isk pm e
      have sp : Same H1 (upd H1 p (.lst (zs.map (·.1)))) := same_new hp
      refine kk p _ _ _ sp upd_same (due.same sp) ri (fun q => (mem q).symm) ?_
      have h2 := dueOf_len (R := fun x y => decide ((x, y) ∈ ks)) (hs := ys)
      have h3 : ys.length * ys.length ≤ 8 * 8 := Nat.mul_le_mul ly ly
      omega
    refine ⟨_, rfl, a, rfl, ⟨_, SqL.of ha⟩, fun D hD => ?_⟩
    refine lc_list (K := K) (a := a) (xs := us) (fun i H1 => Same H H1 ∧ ∃ ws, H1 D = some (.lst ws) ∧ TrsP H1 ws (ps.take i)) ⟨same_new hD, [], upd_same, .nil⟩ (fun i H1 _ z => SqL.of (z.1 _ _ ha)) ?_ ?_
    · rintro i v H1 hv ⟨s1, ws, eD, hws⟩
      obtain ⟨p, hp, vp⟩ := hps.get hv
      obtain ⟨T, rfl, hT⟩ := vp.same s1
      have hil := (List.getElem?_eq_some_iff.mp hv).1
      have et : ps.take (i + 1) = ps.take i ++ [p] := by rw [List.take_succ, hp]; rfl
      have lw := Paired.length hws
      rw [List.length_take] at lw
      refine ⟨rfl, _, rfl, by show 2 ≤ sizeLine; decide, fun A2 hA2 => ?_⟩
      have s2 : Same H1 (upd H1 A2 (.tup [.ref T, .bl true])) := same_new hA2
      have eD2 := s2 _ _ eD
      refine ⟨ws, eD2, small1000 (by omega), same_mut (s1.trans s2) hD, _, upd_same, ?_⟩
      rw [et]
      exact TrsP.app (Paired.mapP hws fun v p z => (z.same s2).mut eD2) (.cons (TrP.mut eD2 ⟨A2, T, rfl, upd_same, s2 _ _ hT⟩) .nil)
    rintro H1 ⟨s1, ws, eD, hws⟩
    rw [lu, List.take_length] at hws
    obtain ⟨as, qs, rfl, htr, eqs⟩ := hws.trs (K := K)
    refine ⟨D, as, qs, rfl, SqL.of eD, htr, fun d hd => ?_⟩
    rw [eqs, show mergeT [] (kvsOf ps) = kvsOf (putAll [] ps) from merge_kvs ps []]
    have s2 : Same H1 (upd H1 d (.dT (kvsOf (putAll [] ps)))) := same_new hd
    have e2 : (upd H1 d (.dT (kvsOf (putAll [] ps)))) d = some (.dT (kvsOf (putAll [] ps))) := upd_same
    have hdH : H d = none := none_of s1 hd
    have s02 := s1.trans s2
    generalize upd H1 d (.dT (kvsOf (putAll [] ps))) = H2 at s2 e2 s02 ⊢
    have m0 : ∀ p, p ∈ putAll [] ps ↔ p ∈ ps := fun p => by rw [putAll_mem]; simp
    refine ⟨4, rfl, by decide, by decide, ?_⟩
    refine for_range (lo := 0) (n := 4) (fun i σ H3 => ∃ (o2 o3 o4 o5 : Option V) (ks : List (Str × Str)), σ = [some (.ref a), some (.ref d), o2, o3, o4, o5, none] ∧ Same H H3 ∧ H3 d = some (.dT (kvsOf ks)) ∧ ks.Nodup ∧ Turn ps ks i ∧ (∀ x y, (x, y) ∈ ks → x ∈ ys ∧ y ∈ ys))
      ⟨none, none, none, none, _, rfl, s02, e2, putAll_nodup ps List.nodup_nil, Turn.init m0, fun x y h => iny x y ((m0 _).mp h)⟩ ?_ ?_
    · rintro i σ H3 hi ⟨o2, o3, o4, o5, ks, rfl, s3, e3, ndk, tk, ink⟩
      refine ⟨_, rfl, ?_⟩
      dsimp (config := { proj := false }) only [tNil]
      refine sorts d ks H3 _ e3 ndk ink fun p us2 ds H4 s4 ep hds ri mds lds => ?_
      have e4 := s4 _ _ e3
      have s04 := s3.trans s4
      have npd : p ≠ d := ne_of ep e4 fun z => nomatch z
      have lds2 := hds.len
      refine ⟨_, rfl, p, rfl, ⟨_, SqL.of ep⟩, ?_⟩
      refine for_list (K := K) (a := p) (xs := us2) (fun j σ H5 => ∃ (o4 o5 : Option V) (ks' : List (Str × Str)), σ = [some (.ref a), some (.ref d), some (.int ((0 : Int) + (i : Nat))), some (.ref p), o4, o5, none] ∧ Kp d H4 H5 ∧ H5 d = some (.dT (kvsOf ks')) ∧ ks'.Nodup ∧ (∀ q, q ∈ ks' ↔ turnOf ds j ks q) ∧ (∀ x y, (x, y) ∈ ks' → x ∈ ys ∧ y ∈ ys))
        ⟨_, _, ks, rfl, Kp.refl _ _, e4, ndk, fun q => ⟨.inl, fun z => z.elim id fun ⟨j, _, h, _⟩ => absurd h (Nat.not_lt_zero _)⟩, ink⟩ (fun j σ H5 _ ⟨_, _, _, _, kp, _⟩ => SqL.of (kp _ _ npd ep)) ?_ ?_
      · rintro j v σ H5 hv ⟨o4, o5, ks', rfl, kp, e5, nd5, m5, in5⟩
        have hds5 := hds.kpd kp e4
        have ep5 := kp _ _ npd ep
        obtain ⟨⟨x, y⟩, hxy, vp⟩ := hds5.get hv
        obtain ⟨T, rfl, hT⟩ := vp
        have hjl := (List.getElem?_eq_some_iff.mp hxy).1
        have xym : (x, y) ∈ ds := List.mem_of_getElem? hxy
        have inds : ∀ q, q ∈ ds → q.1 ∈ ys ∧ q.2 ∈ ys := fun q h => ink q.1 q.2 ((mds q).mp h)
        refine ⟨T, _, rfl, .inl (.inl hT), rfl, _, _, rfl, _, _, rfl, rfl, ?_⟩
        refine ⟨_, rfl, .inr (.inr (.inl ⟨rfl, .inr ⟨_, e5⟩⟩)), ?_⟩
        refine ⟨_, rfl, p, rfl, ⟨_, SqL.of ep5⟩, fun D2 hD2 => ?_⟩
        refine lc_list (K := K) (a := p) (xs := us2) (fun l H6 => Same H5 H6 ∧ ∃ ws, H6 D2 = some (.lst ws) ∧ TrsP H6 ws (((ds.take l).filter fun q => decide (q.1 = y)).map fun q => (x, q.2))) ⟨same_new hD2, [], upd_same, .nil⟩ (fun l H6 _ z => SqL.of (z.1 _ _ ep5)) ?_ ?_
        · rintro l v H6 hv2 ⟨s6, ws, eD2, hws⟩
          obtain ⟨q, hq, vq⟩ := hds5.get hv2
          obtain ⟨T2, rfl, hT2⟩ := vq.same s6
          have hll := (List.getElem?_eq_some_iff.mp hv2).1
          have et : ds.take (l + 1) = ds.take l ++ [q] := by rw [List.take_succ, hq]; rfl
          have lw := Paired.length hws
          have lw2 : ws.length ≤ 64 := by
            rw [lw, List.length_map]
            exact Nat.le_trans (List.length_filter_le _ _) (by rw [List.length_take]; omega)
          rw [et, List.filter_append, List.filter_cons]
          refine ⟨rfl, _, rfl, T2, _, (0 : Nat), .str q.1, rfl, rfl, .inl (.inl hT2), atI_nat rfl, _, rfl, rfl, _, rfl, ?_⟩
          by_cases c : q.1 = y
          · rw [decide_eq_true (congrArg V.str c), if_pos (decide_eq_true c)]
            refine iteT ⟨_, rfl, _, rfl, T2, _, (1 : Nat), .str q.2, rfl, rfl, .inl (.inl hT2), atI_nat rfl, by show 2 ≤ sizeLine; decide, fun T3 hT3 => ?_⟩
            have s7 : Same H6 (upd H6 T3 (.tup [.str x, .str q.2])) := same_new hT3
            refine ⟨by show 2 ≤ sizeLine; decide, fun A3 hA3 => ?_⟩
            have s8 : Same (upd H6 T3 (.tup [.str x, .str q.2])) (upd (upd H6 T3 (.tup [.str x, .str q.2])) A3 (.tup [.ref T3, .bl true])) := same_new hA3
            have s68 := s7.trans s8
            have eD8 := s68 _ _ eD2
            refine ⟨ws, eD8, small1000 (by omega), same_mut (s6.trans s68) hD2, _, upd_same, ?_⟩
            rw [List.map_append]
            exact TrsP.app (Paired.mapP hws fun v p z => (z.same s68).mut eD8) (.cons (TrP.mut eD8 ⟨A3, T3, rfl, upd_same, s8 _ _ upd_same⟩) .nil)
          · rw [decide_eq_false fun z => c (V.str.inj z), if_neg (by rw [decide_eq_false c]; exact Bool.false_ne_true), List.filter_nil, List.append_nil]
            exact iteF ⟨s6, ws, eD2, hws⟩
        · rintro H6 ⟨s6, ws, eD2, hws⟩
          rw [lds2, List.take_length] at hws
          generalize hcs : ((ds.filter fun q => decide (q.1 = y)).map fun q => (x, q.2)) = cs at hws
          have mcs : ∀ q, q ∈ cs ↔ q.1 = x ∧ (y, q.2) ∈ ds := fun q => by
            rw [← hcs, List.mem_map]
            constructor
            · rintro ⟨r, hr, rfl⟩
              obtain ⟨h1, h2⟩ := List.mem_filter.mp hr
              have := of_decide_eq_true h2
              exact ⟨rfl, by rw [← this]; exact h1⟩
            · rintro ⟨h1, h2⟩
              exact ⟨(y, q.2), List.mem_filter.mpr ⟨h2, decide_eq_true rfl⟩, by rw [← h1]⟩
          obtain ⟨as2, qs2, rfl, htr2, eqs2⟩ := hws.trs (K := K)
          refine ⟨D2, as2, qs2, rfl, SqL.of eD2, htr2, fun d2 hd2 => ?_⟩
          rw [eqs2, show mergeT [] (kvsOf cs) = kvsOf (putAll [] cs) from merge_kvs cs []]
          have s7 : Same H6 (upd H6 d2 (.dT (kvsOf (putAll [] cs)))) := same_new hd2
          have e7 : (upd H6 d2 (.dT (kvsOf (putAll [] cs)))) d2 = some (.dT (kvsOf (putAll [] cs))) := upd_same
          have e67 := s6 _ _ e5
          have nd2 : d ≠ d2 := ne_of_none e67 hd2
          generalize upd H6 d2 (.dT (kvsOf (putAll [] cs))) = H7 at s7 e7 ⊢
          have ed7 := s7 _ _ e67
          have mcs0 : ∀ q, q ∈ putAll [] cs ↔ q ∈ cs := fun q => by rw [putAll_mem]; simp
          have incs : ∀ u v, (u, v) ∈ putAll [] cs → u ∈ ys ∧ v ∈ ys := fun u v h => by
            obtain ⟨h1, h2⟩ := (mcs _).mp ((mcs0 _).mp h)
            have e : u = x := h1
            exact ⟨by rw [e]; exact (inds _ xym).1, (inds _ h2).2⟩
          have f1 := prs_few nd5 in5 ly
          have f2 := prs_few (putAll_nodup cs List.nodup_nil) incs ly
          have xyk : (x, y) ∈ ks' := (m5 _).mpr (.inl ((mds _).mp xym))
          refine ⟨d, d2, _, _, rfl, rfl, ed7, e7, nd2, fun z => ?_, ?_, ?_⟩
          · have : ks' = [] := by
              cases ks' with
              | nil => rfl
              | cons _ _ => cases z
            rw [this] at xyk
            cases xyk
          · rw [kvs_len, kvs_len, sizeLine_eq]
            omega
          · rw [merge_kvs]
            refine ⟨_, _, _, rfl, (kp.trans (Kp.same (s6.trans s7))).trans Kp.put, upd_same, putAll_nodup _ nd5, fun q => ?_, fun u v h => ?_⟩
            · rw [putAll_mem, m5, mcs0, mcs]
              unfold turnOf
              constructor
              · rintro ((h | ⟨j', p', h1, h2, h3⟩) | ⟨h1, h2⟩)
                · exact .inl h
                · exact .inr ⟨j', p', by omega, h2, h3⟩
                · exact .inr ⟨j, (x, y), by omega, hxy, h1, h2⟩
              · rintro (h | ⟨j', p', h1, h2, h3⟩)
                · exact .inl (.inl h)
                · rcases Nat.lt_succ_iff_lt_or_eq.mp h1 with h | h
                  · exact .inl (.inr ⟨j', p', h, h2, h3⟩)
                  · subst h
                    rw [hxy] at h2
                    have := Option.some.inj h2
                    subst this
                    exact .inr h3
            · rcases (putAll_mem _ _ _).mp h with z | z
              · exact in5 u v z
              · exact incs u v z
      · rintro σ H5 ⟨o4, o5, ks', rfl, kp, e5, nd5, m5, in5⟩
        rw [lds2] at m5
        refine ⟨_, _, _, _, ks', rfl, same_kp s04 kp hdH, e5, nd5, tk.step fun x z => ?_, in5⟩
        rw [m5]
        unfold turnOf
        constructor
        · rintro (h | ⟨j, p', h1, h2, h3, h4⟩)
          · exact .inl h
          · have hm := List.mem_of_getElem? h2
            have h3' : x = p'.1 := h3
            exact .inr ⟨p'.2, by rw [h3']; exact (mds _).mp hm, (mds _).mp h4⟩
        · rintro (h | ⟨y, h1, h2⟩)
          · exact .inl h
          · obtain ⟨j, hj⟩ := List.mem_iff_getElem?.mp ((mds _).mpr h1)
            exact .inr ⟨j, _, (List.getElem?_eq_some_iff.mp hj).1, hj, rfl, (mds _).mpr h2⟩
    · rintro σ H3 ⟨o2, o3, o4, o5, ks, rfl, s3, e3, ndk, tk, ink⟩
      obtain ⟨thru, krk⟩ := tk.thru kr lrow
      refine ⟨_, rfl, ?_⟩
      dsimp (config := { proj := false }) only [tNil]
      refine sorts d ks H3 _ e3 ndk ink fun p us2 ds H4 s4 ep hds ri mds lds => ?_
      refine ⟨p, us2, rfl, .inl ⟨SqL.of ep, fun t ht => ?_⟩⟩
      have s5 : Same H4 (upd H4 t (.tup us2)) := same_new ht
      refine k t us2 ds _ ((s3.trans s4).trans s5) ⟨.inl upd_same, hds.same s5, ri, lds, fun x y h => ?_, fun x y z h1 h2 => ?_⟩ fun x y h => krk x y ((mds _).mp h)
      · have h' := (mds _).mp h
        refine ⟨(ink x y h').1, (ink x y h').2, fun e => ?_⟩
        have := (krk x y h').2.2
        rw [e] at this
        exact Nat.lt_irrefl _ this
      · exact (mds _).mpr (thru x y z ((mds _).mp h1) ((mds _).mp h2))
theorem scLawWeb : FnScope ["pen", "hands"] ["pen", "hands"] (defScope sLawWeb) := ⟨rfl, rfl, rfl, by decide +kernel, rfl, by decide +kernel, by decide +kernel⟩
def spLawWeb : Sp := fun vs H Q _ => ∃ (p c a : Addr) (hs ys : List Str) (n : Nat), vs = [.ref p, .ref a] ∧ H a = some (.lst (hs.map V.str)) ∧ (∀ x ∈ hs, IsHand x) ∧ hs.Nodup ∧ hs.length ≤ 8 ∧ ys.Perm hs ∧ ys.Pairwise sLt ∧ PenAt H p c n ∧ n + 300 < 1000000 ∧
  ∀ (t : Addr) (ws : List V) (ds : List (Str × Str)) (row : List Str) (H' : Hp), WebAt H' t ws hs ds → KeepR row ds → PenAt H' p c (n + hs.length + 100) → Kp p H H' → Q (.ref t) H'
theorem ok_lawWeb {f f1 f2 f3 : Addr} {fd fd1 fd2 fd3 : FuncData} (F : Fun K "_law_web" "_law_web" sLawWeb f fd) (D1 : Df P w K mg base CX0 "_law_closed" 1 f1 fd1 ["pairs"] spLawClosed) (D2 : Df P w K mg base CX0 "_law_pairs_of_row" 3 f2 fd2 ["pen", "row"] spPairsRow) (D3 : Df P w K mg base CX0 "_law_row" 3 f3 fd3 ["pen", "hands"] spLawRow) :
    FnOk P w K mg base CX0 4 f fd ["pen", "hands"] spLawWeb := by
  refine F.ok scLawWeb (fun vs H Q E h => ?_) (fun cdv A outer s H vs Q E hr h => ?_)
  · obtain ⟨p, c, a, hs, ys, n, rfl, _⟩ := h
    rfl
  · obtain ⟨p, c, a, hs, ys, n, rfl, ha, hh, ndh, hl, py, srt, hp, hn, k⟩ := h
    have hr1 : Room 1 _ := hr.mono (by decide)
    refine ⟨_, pss_one (ps_ret (pe_call D1.ok hr1 rfl D1.g D1.kp D1.b .nil pass0 (pa_cons (pe_call D2.ok hr rfl D2.g D2.kp D2.b .nil pass0 (pa_cons (pv 0) (pa_cons (pe_call D3.ok hr rfl D3.g D3.kp D3.b .nil pass0 (pa_cons (pv 0) (pa_cons (pv 1) pa_nil))) pa_nil))) pa_nil))), ?_⟩
    refine ⟨_, rfl, _, rfl, _, rfl, p, c, a, hs, n, rfl, .inl ha, hh, by omega, hp, by omega, fun b row H1 pr fr hp1 kp1 => ?_⟩
    have lr := pr.length_eq
    refine ⟨p, c, b, row, _, rfl, fr.rd, by omega, hp1, by omega, fun q us ps H2 eq hps ofp lps hp2 kp2 => ?_⟩
    have ndr := pr.nodup_iff.mpr ndh
    have kr : KeepR row ps := fun x y h => by
      obtain ⟨i, j, hij, hi, hj⟩ := ofp x y h
      have e1 : row.idxOf x = i := by
        have h1 := idx_at (List.mem_of_getElem? hi)
        obtain ⟨a1, a2⟩ := List.getElem?_eq_some_iff.mp hi
        obtain ⟨b1, b2⟩ := List.getElem?_eq_some_iff.mp h1
        exact nd_inj ndr b1 a1 (by rw [a2, b2])
      have e2 : row.idxOf y = j := by
        have h1 := idx_at (List.mem_of_getElem? hj)
        obtain ⟨a1, a2⟩ := List.getElem?_eq_some_iff.mp hj
        obtain ⟨b1, b2⟩ := List.getElem?_eq_some_iff.mp h1
        exact nd_inj ndr b1 a1 (by rw [a2, b2])
      exact ⟨List.mem_of_getElem? hi, List.mem_of_getElem? hj, by omega⟩
    have iny : ∀ x y, (x, y) ∈ ps → x ∈ ys ∧ y ∈ ys := fun x y h => ⟨py.mem_iff.mpr (pr.mem_iff.mp (kr x y h).1), py.mem_iff.mpr (pr.mem_iff.mp (kr x y h).2.1)⟩
    have ly := py.length_eq
    refine ⟨q, us, ps, row, ys, rfl, eq, hps, by omega, kr, by omega, srt, by omega, iny, fun t ws ds H3 s3 hw krd => ?_⟩
    refine k t ws ds row H3 ⟨hw.at', hw.prs, hw.rises, hw.few, fun x y h => ?_, hw.thru⟩ krd (hp2.keep s3) ((kp1.trans kp2).trans (Kp.same s3))
    exact ⟨py.mem_iff.mp (hw.mem x y h).1, py.mem_iff.mp (hw.mem x y h).2.1, (hw.mem x y h).2.2⟩
end
end Ah
set_option Elab.async false
set_option linter.all false
set_option maxRecDepth 100000
set_option maxHeartbeats 4000000
namespace Ah
open PySem PySem.Spec PyProof.Rows L2
abbrev sIsEnd : Stmt := topS 35
abbrev sIsNext : Stmt := topS 36
def rGtS : R2 := fun x y H Q => ∃ i j : Str, x = .str i ∧ y = .str j ∧ Q (.bl (decide (j.cps.toList < i.cps.toList))) H
theorem op_gtS {X : Cx} : OpR X (compareOp .Gt) rGtS := op_gt_str
section
variable {P : Program} {w : World} {K : PySem.W.Frag} {mg : Str → Option Value} {base : Heap}
def spNext2 : Sp := fun vs H Q _ => ∃ (a b r : Addr) (hs ys row : List Str) (us : List V) (ps : List (Str × Str)), vs = [.ref a, .ref b, .ref r] ∧ H a = some (.lst (hs.map V.str)) ∧ Rd H b (.tup us) ∧ PrsV H us ps ∧ Rd H r (.tup (row.map V.str)) ∧ hs.length ≤ 60 ∧ ps.length ≤ 100 ∧ ys.Perm hs ∧ ys.Pairwise sLt ∧
  ∀ (q : Addr) (H' : Hp), Same H H' → H' q = some (.lst ((nxO ps ys row).map V.str)) → Q (.ref q) H'
theorem ok_next2 {f : Addr} {fd : FuncData} (F : Fun K "_law_nexts" "_law_nexts" sNexts f fd) (B : Blt2 mg) : FnOk P w K mg base CX0 1 f fd ["hands", "web", "head"] spNext2 := by
  refine F.ok scNexts (fun vs H Q E h => ?_) (fun cdv A outer s H vs Q E hr h => ?_)
  · obtain ⟨a, b, r, hs, ys, row, us, ps, rfl, _⟩ := h
    rfl
  · obtain ⟨a, b, r, hs, ys, row, us, ps, rfl, ha, hb, hps, hrr, hl, hl2, py, srt, k⟩ := h
    have nd := scNexts.nd
    have lu := hps.len
    refine ⟨_, pss_cons (ps_set (i := 3) nd rfl (.inr rfl) (pe_lc (own := [("pair", 4)]) (g := gName 4) (tt := tTest (tOp (rIn K true) (tOp (rIxT K) (tVar 4) (tC (.int 0))) (tVar 2))) (te := tOp (rIxT K) (tVar 4) (tC (.int 1))) rfl nd (pi_tup (pv 1))
          (blkOk_by (N := ["hands", "web", "head", "lacking", "pair", "hand"]) (sc := defScope sNexts) (by decide +kernel)) (fun _ _ _ _ _ => pg_name (i := 4) nd rfl (Or.inl rfl))
          (fun _ _ _ _ _ => pts_one (pt_cmpR (r := rIn K true) op_notIn_seq (pe_ix (r := rIxT K) ix_tup (pv 4) pe_int (fun _ _ => rfl)) (pv 2) (by rfl)))
          (fun _ _ _ _ _ => pe_ix (r := rIxT K) ix_tup (pv 4) pe_int (fun _ _ => rfl))))
      (pss_one (ps_ret (pe_lc (own := [("hand", 5)]) (g := gName 5) (tt := tAnd (tTest (tOp (rIn K true) (tVar 5) (tVar 2))) (tTest (tOp (rIn K true) (tVar 5) (tVar 3)))) (te := tVar 5) rfl nd (pi_list (pe_callB cr_sortedTS (by rfl) B.sorted (by decide +kernel) (pa_cons (pv 0) pa_nil)))
          (blkOk_by (N := ["hands", "web", "head", "lacking", "pair", "hand"]) (sc := defScope sNexts) (by decide +kernel)) (fun _ _ _ _ _ => pg_name (i := 5) nd rfl (Or.inl rfl))
          (fun _ _ _ _ _ => pts_one (PW.pt (pw_and (pt_cmpR (r := rIn K true) op_notIn_seq (pv 5) (pv 2) (by rfl)) (pw_and1 (pt_cmpR (r := rIn K true) op_notIn_seq (pv 5) (pv 3) (by rfl))))))
          (fun _ _ _ _ _ => pv 5)))), ?_⟩
    refine ⟨_, rfl, b, rfl, ⟨_, .inl hb⟩, fun D0 hD0 => ?_⟩
    refine lc_tup (K := K) (a := b) (xs := us) (fun i H2 => Same H H2 ∧ H2 D0 = some (.lst ((lackOf (ps.take i) row).map V.str))) ⟨same_new hD0, upd_same⟩ (fun i H2 _ q => .inl (rd_same q.1 hb)) ?_ ?_
    · rintro i x H2 hx ⟨s2, e2⟩
      obtain ⟨p, hp, vp⟩ := hps.get hx
      obtain ⟨T, rfl, hT⟩ := vp.same s2
      have et : ps.take (i + 1) = ps.take i ++ [p] := by rw [List.take_succ, hp]; rfl
      have hil := (List.getElem?_eq_some_iff.mp hx).1
      refine ⟨rfl, _, rfl, T, _, (0 : Nat), .str p.1, rfl, rfl, .inl (.inl hT), atI_nat rfl, _, rfl, r, _, rfl, .inr (.inl (rd_same s2 hrr)), rfl, flat_strs row, _, rfl, ?_⟩
      rw [if_pos rfl, inV_txts]
      have split : lackOf (ps.take (i + 1)) row = lackOf (ps.take i) row ++ (if p.1 ∈ row then [] else [p.2]) := by
        rw [et]
        unfold lackOf
        rw [List.filter_append, List.map_append, List.filter_cons]
        by_cases c : p.1 ∈ row
        · rw [if_neg (by rw [decide_eq_false (fun z => z c)]; exact Bool.false_ne_true), if_pos c]; rfl
        · rw [if_pos (decide_eq_true c), if_neg c]; rfl
      rw [split]
      by_cases c : p.1 ∈ row
      · rw [decide_eq_true c, if_pos c, List.append_nil]
        exact iteF ⟨s2, e2⟩
      · rw [decide_eq_false c, if_neg c]
        refine iteT ⟨_, rfl, T, _, (1 : Nat), .str p.2, rfl, rfl, .inl (.inl hT), atI_nat rfl, _, e2, ?_, same_mut s2 hD0, ?_⟩
        · rw [List.length_map]
          unfold lackOf
          rw [List.length_map]
          exact small1000 (Nat.le_trans (List.length_filter_le _ _) (by rw [List.length_take]; omega))
        · rw [upd_same, List.map_append]
          rfl
    · rintro H2 ⟨s2, e2⟩
      rw [lu, List.take_length] at e2
      refine ⟨_, rfl, a, hs, rfl, .inl (SqL.of (s2 _ _ ha)), by omega, fun zs q pz sz hq => ⟨q, rfl, ⟨_, SqL.of upd_same⟩, fun D1 hD1 => ?_⟩⟩
      have ez : zs = ys := srt_eq (rises_of_sorted sz (pz.nodup_iff.mpr (py.nodup_iff.mp (srt_nodup srt)))) srt fun x => (pz.trans py.symm).mem_iff
      subst ez
      have sq : Same H2 (upd H2 q (.lst (zs.map V.str))) := same_new hq
      have eq : (upd H2 q (.lst (zs.map V.str))) q = some (.lst (zs.map V.str)) := upd_same
      generalize upd H2 q (.lst (zs.map V.str)) = H3 at sq eq hD1 ⊢
      have s3 := s2.trans sq
      have lys := py.length_eq
      refine lc_list (K := K) (a := q) (xs := zs.map V.str) (fun i H4 => Same H3 H4 ∧ H4 D1 = some (.lst ((nextOf ps row (zs.take i)).map V.str))) ⟨same_new hD1, upd_same⟩ (fun i H4 _ z => SqL.of (z.1 _ _ eq)) ?_ ?_
      · rintro i v H4 hv ⟨s4, e4⟩
        obtain ⟨x, hx, rfl, _⟩ := str_at hv
        have et : zs.take (i + 1) = zs.take i ++ [x] := by rw [List.take_succ, hx]; rfl
        refine ⟨rfl, _, rfl, _, rfl, r, _, rfl, .inr (.inl (rd_same (s3.trans s4) hrr)), rfl, flat_strs row, _, rfl, ?_⟩
        rw [if_pos rfl, inV_txts]
        have no : ¬ (x ∉ row ∧ x ∉ lackOf ps row) → Same H3 H4 ∧ H4 D1 = some (.lst ((nextOf ps row (zs.take (i + 1))).map V.str)) := fun c => by
          rw [et]
          unfold nextOf
          rw [List.filter_append, List.filter_cons, if_neg (by rw [decide_eq_false c]; exact Bool.false_ne_true)]
          exact ⟨s4, by rw [e4]; unfold nextOf; simp⟩
        by_cases c : x ∈ row
        · rw [decide_eq_true c]
          exact iteF (iteF (no fun z => z.1 c))
        · rw [decide_eq_false c]
          refine iteT ⟨_, rfl, _, rfl, D0, _, rfl, .inl (SqL.of ((sq.trans s4) _ _ e2)), rfl, flat_strs _, _, rfl, ?_⟩
          rw [if_pos rfl, inV_txts]
          by_cases c2 : x ∈ lackOf ps row
          · rw [decide_eq_true c2]
            exact iteF (no fun z => z.2 c2)
          · rw [decide_eq_false c2]
            refine iteT ⟨_, rfl, _, e4, ?_, same_mut s4 hD1, ?_⟩
            · rw [List.length_map]
              unfold nextOf
              exact small1000 (Nat.le_trans (List.length_filter_le _ _) (by rw [List.length_take]; omega))
            · rw [upd_same, et]
              unfold nextOf
              rw [List.filter_append, List.filter_cons, if_pos (decide_eq_true ⟨c, c2⟩), List.map_append]
              rfl
      · rintro H4 ⟨s4, e4⟩
        rw [List.length_map, List.take_length] at e4
        exact k D1 H4 (s3.trans s4) e4
theorem dp_nilL {H : Hp} {L : Addr} (h : H L = some (.lst [])) : Dp K H (.ref L) (.list []) := .lst (SqL.of h) .nil
theorem shp_nilL : SeqAt.shaped (.list []) = true := shp_l fun e he => by cases he
theorem scIsEnd : FnScope ["hands", "web", "row", "at", "side", "k"] ["hands", "web", "row", "at", "side"] (defScope sIsEnd) := ⟨rfl, rfl, rfl, by decide +kernel, rfl, by decide +kernel, by decide +kernel⟩
def spIsEnd : Sp := fun vs H Q _ => ∃ (a t r : Addr) (at' : Nat) (side : Int) (hs ys row : List Str) (us : List V) (ps : List (Str × Str)), vs = [.ref a, .ref t, .ref r, .int (at' : Int), .int side] ∧ H a = some (.lst (hs.map V.str)) ∧ Rd H t (.tup us) ∧ PrsV H us ps ∧ H r = some (.tup (row.map V.str)) ∧ row.length = hs.length ∧ hs.length ≤ 8 ∧ ps.length ≤ 64 ∧ at' ≤ 9 ∧ ys.Perm hs ∧ ys.Pairwise sLt ∧
  (∀ k, at' ≤ k → k < hs.length → ∃ x, row[k]? = some x ∧ atI ((nxO ps ys (row.take k)).map V.str) side = some (.str x)) ∧ ∀ H', Same H H' → Q (.bl true) H'
theorem ok_isEnd {f f1 : Addr} {fd fd1 : FuncData} (F : Fun K "_law_is_end" "_law_is_end" sIsEnd f fd) (B : Blt2 mg) (D : Df P w K mg base CX0 "_law_nexts" 1 f1 fd1 ["hands", "web", "head"] spNext2) : FnOk P w K mg base CX0 2 f fd ["hands", "web", "row", "at", "side"] spIsEnd := by
  refine F.ok scIsEnd (fun vs H Q E h => ?_) (fun cdv A outer s H vs Q E hr h => ?_)
  · obtain ⟨a, t, r, at', side, hs, ys, row, us, ps, rfl, _⟩ := h
    rfl
  · obtain ⟨a, t, r, at', side, hs, ys, row, us, ps, rfl, ha, ht, hps, hrw, lr, hl, lp, lat, py, srt, hend, k⟩ := h
    have nd := scIsEnd.nd
    have hu64 : (A.deeper (envOfC "_law_is_end" (defScope sIsEnd) s.heap.objs.size f cdv)).units + 64 < cLine := by
      have := hr.units
      omega
    refine ⟨_, pss_one (ps_ret (pe_cmpR (r := rEqD K) (op_eqD hu64) (pe_lc (own := [("k", 5)]) (g := gName 5) (tt := tTest (tOp rNe (tOp (rIxT K) (tVar 2) (tVar 5)) (tOp (rIxL K) (tCall spNext2 [] E0 (tCons (tVar 0) (tCons (tVar 1) (tCons (tSl (rSlA K) (tVar 2) tNoPart (tPart (tVar 5))) tNil)))) (tVar 4)))) (te := tVar 5) rfl nd
        (pi_range2 rfl B.range (pa_cons (pv 3) (pa_cons (pe_callB call_len_seq (by rfl) B.len PySem.boot_len (pa_cons (pv 0) pa_nil)) pa_nil)))
        (blkOk_by (N := ["hands", "web", "row", "at", "side", "k"]) (sc := defScope sIsEnd) (by decide +kernel)) (fun _ _ _ _ _ => pg_name (i := 5) nd rfl (Or.inl rfl))
        (fun _ _ _ _ _ => pts_one (pt_cmpR op_ne (pe_ix (r := rIxT K) ix_tup (pv 2) (pv 5) (fun _ _ => rfl)) (pe_ix (r := rIxL K) ix_list (pe_call D.ok hr rfl D.g D.kp D.b .nil pass0 (pa_cons (pv 0) (pa_cons (pv 1) (pa_cons (pe_slice (r := rSlA K) sl_tupA (pv 2) po_none (po_some (pv 5))) pa_nil)))) (pv 4) (fun _ _ => rfl)) (nomark _)))
        (fun _ _ _ _ _ => pv 5)) (pe_lst pa_nil) (nomark _))), ?_⟩
    refine ⟨_, rfl, _, rfl, a, _, rfl, .inl (SqL.of ha), ?_⟩
    have lm : (hs.map V.str).length = hs.length := List.length_map ..
    rw [lm]
    refine ⟨_, _, rfl, by omega, fun D0 hD0 => ?_⟩
    have ex : (((hs.length : Nat) : Int) - ((at' : Nat) : Int)).toNat = hs.length - at' := by omega
    rw [ex]
    refine lc_range (lo := ((at' : Nat) : Int)) (n := hs.length - at') (fun i H2 => Same H H2 ∧ H2 D0 = some (.lst [])) ⟨same_new hD0, upd_same⟩ ?_ ?_
    · rintro i H2 hi ⟨s2, e2⟩
      obtain ⟨x, hx, hat⟩ := hend (at' + i) (by omega) (by omega)
      have ei : ((at' : Nat) : Int) + (i : Int) = ((at' + i : Nat) : Int) := by omega
      have er := s2 _ _ hrw
      refine ⟨rfl, _, rfl, _, rfl, r, _, ((at' : Nat) : Int) + (i : Int), .str x, rfl, rfl, .inl (.inl er), (by rw [ei]; exact atI_nat (by rw [List.getElem?_map, hx]; rfl)), ?_⟩
      refine ⟨_, rfl, _, rfl, _, rfl, ?_⟩
      dsimp only [tNoPart]
      refine ⟨_, rfl, _, rfl, ?_⟩
      rw [ei]
      refine slA (.inl er) fun b4 H4 s4 e4 => ?_
      rw [cutV_to (by rw [List.length_map]; omega), ← List.map_take] at e4
      have s24 := s2.trans s4
      refine ⟨a, t, b4, hs, ys, row.take (at' + i), us, ps, rfl, s24 _ _ ha, rd_same s24 ht, hps.same s24, e4, by omega, by omega, py, srt, fun q H5 s5 eq => ?_⟩
      refine ⟨_, rfl, q, _, side, .str x, rfl, rfl, SqL.of eq, hat, rfl, _, rfl, ?_⟩
      rw [decide_eq_true rfl]
      exact iteF ⟨s24.trans s5, s5 _ _ (s4 _ _ e2)⟩
    · rintro H2 ⟨s2, e2⟩
      refine ⟨Nat.zero_le _, fun L hL => ?_⟩
      have sL : Same H2 (upd H2 L (.lst [])) := same_new hL
      refine ⟨.list [], .list [], dp_nilL (sL _ _ e2), dp_nilL upd_same, shp_nilL, shp_nilL, ?_⟩
      have e : PyData.eqv (.list []) (.list []) = true := by simp [PyData.eqv, PyData.eqvAll]
      rw [e]
      exact k _ (s2.trans sL)
end
end Ah
set_option Elab.async false
set_option linter.all false
set_option maxRecDepth 100000
set_option maxHeartbeats 4000000
namespace Ah
open PySem PySem.Spec PyProof.Rows L2
theorem first_of {p : Nat → Bool} {m : Nat} (h0 : ∀ k, k < m → p k = false) (h1 : p m = true) : ∀ i, (i ≤ m → (List.range i).filter p = []) ∧ (m < i → ∃ r, (List.range i).filter p = m :: r)
  | 0 => ⟨fun _ => rfl, fun h => absurd h (Nat.not_lt_zero _)⟩
  | i + 1 => by
    obtain ⟨a, b⟩ := first_of h0 h1 i
    rw [List.range_succ, List.filter_append, List.filter_cons]
    refine ⟨fun h => ?_, fun h => ?_⟩
    · rw [a (by omega), h0 i (by omega)]
      rfl
    · rcases Nat.lt_succ_iff_lt_or_eq.mp h with z | z
      · obtain ⟨r, e⟩ := b z
        rw [e]
        exact ⟨_, rfl⟩
      · subst z
        rw [a (Nat.le_refl _), h1]
        exact ⟨[], rfl⟩
theorem dp_intsN {K : PySem.W.Frag} {H : Hp} : ∀ l : List Nat, DpAll K H (l.map fun k => V.int (k : Nat)) (l.map fun k => PyData.int (k : Nat))
  | [] => .nil
  | k :: r => .cons (.int _) (dp_intsN r)
theorem gt_filter {u v : List Str} {h h' : Str} (pw : (u ++ h :: h' :: v).Pairwise sLt) : (u ++ h :: h' :: v).filter (fun z => decide (h.cps.toList < z.cps.toList)) = h' :: v := by
  obtain ⟨p1, p2, p3⟩ := List.pairwise_append.mp pw
  obtain ⟨q1, q2⟩ := List.pairwise_cons.mp p2
  have e1 : u.filter (fun z => decide (h.cps.toList < z.cps.toList)) = [] := List.filter_eq_nil_iff.mpr fun z hz c => by
    have l1 : sLt z h := p3 z hz h (List.mem_cons_self ..)
    have l2 : sLt h z := of_decide_eq_true c
    exact sLt_irr z (sLt_trans l1 l2)
  rw [List.filter_append, e1, List.nil_append, List.filter_cons, if_neg (show ¬ (decide (h.cps.toList < h.cps.toList) = true) from fun c => sLt_irr h (of_decide_eq_true c))]
  exact List.filter_eq_self.mpr fun z hz => decide_eq_true (q1 z hz)
section
variable {P : Program} {w : World} {K : PySem.W.Frag} {mg : Str → Option Value} {base : Heap}
theorem scIsNext : FnScope ["hands", "web", "row", "other", "places", "at", "greater", "k", "hand"] ["hands", "web", "row", "other"] (defScope sIsNext) := ⟨rfl, rfl, rfl, by decide +kernel, rfl, by decide +kernel, by decide +kernel⟩
def spIsNext : Sp := fun vs H Q _ => ∃ (a t r o : Addr) (hs ys row other : List Str) (us : List V) (ps : List (Str × Str)), vs = [.ref a, .ref t, .ref r, .ref o] ∧ H a = some (.lst (hs.map V.str)) ∧ Rd H t (.tup us) ∧ PrsV H us ps ∧ H r = some (.tup (row.map V.str)) ∧ H o = some (.tup (other.map V.str)) ∧ row.length = hs.length ∧ other.length = hs.length ∧ hs.length ≤ 8 ∧ ps.length ≤ 64 ∧ ys.Perm hs ∧ ys.Pairwise sLt ∧ (∀ x ∈ ys, PyData.strOk x = true) ∧
  NextTo (nxO ps ys) row other ∧ ∀ H', Same H H' → Q (.bl true) H'
theorem ok_isNext {f f1 f2 : Addr} {fd fd1 fd2 : FuncData} (F : Fun K "_law_is_next" "_law_is_next" sIsNext f fd) (B : Blt2 mg) (D1 : Df P w K mg base CX0 "_law_nexts" 1 f1 fd1 ["hands", "web", "head"] spNext2) (D2 : Df P w K mg base CX0 "_law_is_end" 2 f2 fd2 ["hands", "web", "row", "at", "side"] spIsEnd) :
    FnOk P w K mg base CX0 3 f fd ["hands", "web", "row", "other"] spIsNext := by
  refine F.ok scIsNext (fun vs H Q E h => ?_) (fun cdv A outer s H vs Q E hr h => ?_)
  · obtain ⟨a, t, r, o, hs, ys, row, other, us, ps, rfl, _⟩ := h
    rfl
  · obtain ⟨a, t, r, o, hs, ys, row, other, us, ps, rfl, ha, ht, hps, hrw, hot, lr, lo, hl, lp, py, srt, hok, hnt, k⟩ := h
    have nd := scIsNext.nd
    have hr1 : Room 1 _ := hr.mono (by decide)
    have hu64 : (A.deeper (envOfC "_law_is_next" (defScope sIsNext) s.heap.objs.size f cdv)).units + 64 < cLine := by
      have := hr.units
      omega
    refine ⟨_, pss_cons (ps_setLc (i := 4) (own := [("k", 7)]) (g := gName 7) (tt := tTest (tOp rNe (tOp (rIxT K) (tVar 2) (tVar 7)) (tOp (rIxT K) (tVar 3) (tVar 7)))) (te := tVar 7) rfl nd rfl rfl (by rfl) (pi_range1 rfl B.range (pa_cons (pe_callB call_len_seq (by rfl) B.len PySem.boot_len (pa_cons (pv 0) pa_nil)) pa_nil))
          (blkOk_by (N := ["hands", "web", "row", "other", "places", "at", "greater", "k", "hand"]) (sc := defScope sIsNext) (by decide +kernel)) (fun _ _ _ _ _ => pg_name (i := 7) nd rfl (Or.inl rfl))
          (fun _ _ _ _ _ => pts_one (pt_cmpR op_ne (pe_ix (r := rIxT K) ix_tup (pv 2) (pv 7) (fun _ _ => rfl)) (pe_ix (r := rIxT K) ix_tup (pv 3) (pv 7) (fun _ _ => rfl)) (nomark _)))
          (fun _ _ _ _ _ => pv 7))
      (pss_cons (ps_if (pt_cmpR (r := rEqD K) (op_eqD hu64) (pv 4) (pe_lst pa_nil) (nomark _)) (pss_one (ps_ret pe_bl)) pss_nil)
      (pss_cons (ps_set (i := 5) nd rfl (.inr rfl) (pe_ix (r := rIxL K) ix_list (pv 4) pe_int (fun _ _ => rfl)))
      (pss_cons (ps_setLc (i := 6) (own := [("hand", 8)]) (g := gName 8) (tt := tTest (tOp rGtS (tVar 8) (tOp (rIxT K) (tVar 2) (tVar 5)))) (te := tVar 8) rfl nd rfl rfl (by rfl) (pi_list (pe_call D1.ok hr1 rfl D1.g D1.kp D1.b .nil pass0 (pa_cons (pv 0) (pa_cons (pv 1) (pa_cons (pe_slice (r := rSlA K) sl_tupA (pv 2) po_none (po_some (pv 5))) pa_nil)))))
          (blkOk_by (N := ["hands", "web", "row", "other", "places", "at", "greater", "k", "hand"]) (sc := defScope sIsNext) (by decide +kernel)) (fun _ _ _ _ _ => pg_name (i := 8) nd rfl (Or.inl rfl))
          (fun _ _ _ _ _ => pts_one (pt_cmpR (r := rGtS) op_gtS (pv 8) (pe_ix (r := rIxT K) ix_tup (pv 2) (pv 5) (fun _ _ => rfl)) (nomark _)))
          (fun _ _ _ _ _ => pv 8))
      (pss_cons (ps_if (pt_cmpR (r := rNeD K) (op_neD hu64) (pe_slice (r := rSlL K) sl_list (pv 6) po_none (po_some pe_int)) (pe_lst (pa_cons (pe_ix (r := rIxT K) ix_tup (pv 3) (pv 5) (fun _ _ => rfl)) pa_nil)) (nomark _)) (pss_one (ps_ret pe_bl)) pss_nil)
      (pss_one (ps_ret (pe_and (pe_call D2.ok hr rfl D2.g D2.kp D2.b .nil pass0 (pa_cons (pv 0) (pa_cons (pv 1) (pa_cons (pv 2) (pa_cons (pe_op op_add (pv 5) pe_int) (pa_cons (pe_un un_neg pe_int) pa_nil))))))
        (pe_one (pe_call D2.ok hr rfl D2.g D2.kp D2.b .nil pass0 (pa_cons (pv 0) (pa_cons (pv 1) (pa_cons (pv 3) (pa_cons (pe_op op_add (pv 5) pe_int) (pa_cons pe_int pa_nil)))))))))))))), ?_⟩
    obtain ⟨Pre, h, h', s1, s2, u, v, er, eo, enx, lasts, firsts⟩ := hnt.by'
    have pwn : (nxO ps ys Pre).Pairwise sLt := nxO_srt srt
    rw [enx] at pwn
    have nhh : h ≠ h' := fun e => by
      obtain ⟨_, p2, _⟩ := List.pairwise_append.mp pwn
      have := (List.pairwise_cons.mp p2).1 h' (List.mem_cons_self ..)
      rw [e] at this
      exact sLt_irr _ this
    have mP : Pre.length < hs.length := by
      rw [← lr, er, List.length_append, List.length_cons]
      omega
    have rP : row[Pre.length]? = some h := by rw [er]; simp
    have oP : other[Pre.length]? = some h' := by rw [eo]; simp
    have inh' : h' ∈ ys := by
      have : h' ∈ nxO ps ys Pre := by rw [enx]; simp
      exact (nxO_mem.mp this).1
    let p : Nat → Bool := fun k => !decide (V.str (row.getD k default) = V.str (other.getD k default))
    have p0 : ∀ k, k < Pre.length → p k = false := fun k hk => by
      have e1 : row.getD k default = other.getD k default := by
        rw [er, eo, List.getD_eq_getElem?_getD, List.getD_eq_getElem?_getD, List.getElem?_append_left hk, List.getElem?_append_left hk]
      show (!decide (V.str (row.getD k default) = V.str (other.getD k default))) = false
      rw [e1, decide_eq_true rfl]
      rfl
    have p1 : p Pre.length = true := by
      have e1 : row.getD Pre.length default = h := by
        rw [List.getD_eq_getElem?_getD, rP]
        rfl
      have e2 : other.getD Pre.length default = h' := by
        rw [List.getD_eq_getElem?_getD, oP]
        rfl
      show (!decide (V.str (row.getD Pre.length default) = V.str (other.getD Pre.length default))) = true
      rw [e1, e2, decide_eq_false fun z => nhh (V.str.inj z)]
      rfl
    have lm : (hs.map V.str).length = hs.length := List.length_map ..
    refine ⟨_, rfl, a, _, rfl, .inl (SqL.of ha), ?_⟩
    rw [lm]
    refine ⟨_, rfl, by omega, by omega, fun D0 hD0 => ?_⟩
    rw [show (((hs.length : Nat) : Int)).toNat = hs.length from Int.toNat_natCast _]
    refine lc_range (lo := 0) (n := hs.length) (fun i H2 => Same H H2 ∧ H2 D0 = some (.lst (((List.range i).filter p).map fun k => V.int (k : Nat)))) ⟨same_new hD0, upd_same⟩ ?_ ?_
    · rintro i H2 hi ⟨z2, e2⟩
      have g1 : row[i]? = some (row.getD i default) := getD_at (by omega)
      have g2 : other[i]? = some (other.getD i default) := getD_at (by omega)
      have e0 : (0 : Int) + (i : Int) = ((i : Nat) : Int) := by omega
      rw [e0]
      refine ⟨rfl, _, rfl, _, rfl, r, _, ((i : Nat) : Int), .str (row.getD i default), rfl, rfl, .inl (.inl (z2 _ _ hrw)), atI_nat (by rw [List.getElem?_map, g1]; rfl), ?_⟩
      refine ⟨_, rfl, _, rfl, o, _, ((i : Nat) : Int), .str (other.getD i default), rfl, rfl, .inl (.inl (z2 _ _ hot)), atI_nat (by rw [List.getElem?_map, g2]; rfl), rfl, _, rfl, ?_⟩
      rw [List.range_succ, List.filter_append, List.filter_cons]
      have ep : (!decide (V.str (row.getD i default) = V.str (other.getD i default))) = p i := rfl
      rw [ep]
      by_cases c : p i = true
      · rw [if_pos c, c]
        refine iteT ⟨_, rfl, _, e2, ?_, same_mut z2 hD0, ?_⟩
        · rw [List.length_map]
          exact small1000 (Nat.le_trans (List.length_filter_le _ _) (by rw [List.length_range]; omega))
        · rw [upd_same, List.map_append]
          rfl
      · have c' : p i = false := by simpa using c
        rw [if_neg c, c']
        refine iteF ⟨z2, ?_⟩
        rw [e2]
        simp
    · rintro H2 ⟨z2, e2⟩
      obtain ⟨rest, epl⟩ := (first_of p0 p1 hs.length).2 mP
      rw [epl] at e2
      refine ⟨_, rfl, Nat.zero_le _, fun L hL => ?_⟩
      have sL : Same H2 (upd H2 L (.lst [])) := same_new hL
      have eL : (upd H2 L (.lst [])) L = some (.lst []) := upd_same
      generalize upd H2 L (.lst []) = H3 at sL eL ⊢
      have e3 := sL _ _ e2
      refine ⟨.list ((Pre.length :: rest).map fun k => PyData.int (k : Nat)), .list [], .lst (SqL.of e3) (dp_intsN _), dp_nilL eL, shp_l fun d hd => ?_, shp_nilL, _, rfl, ?_⟩
      · obtain ⟨k, _, rfl⟩ := List.mem_map.mp hd
        exact ⟨by simp [PyData.canLay0], by simp [PyData.depth]⟩
      rw [eqv_nils]
      refine iteF ⟨_, rfl, D0, _, (0 : Nat), .int ((Pre.length : Nat) : Int), rfl, rfl, SqL.of e3, atI_nat rfl, ?_⟩
      have z3 := z2.trans sL
      refine ⟨_, rfl, _, rfl, _, rfl, ?_⟩
      dsimp only [tNoPart]
      refine ⟨_, rfl, _, rfl, ?_⟩
      refine slA (.inl (z3 _ _ hrw)) fun b4 H4 s4 e4 => ?_
      rw [cutV_to (by rw [List.length_map]; omega), ← List.map_take] at e4
      have eP : row.take Pre.length = Pre := by rw [er, List.take_left]
      rw [eP] at e4
      have z4 := z3.trans s4
      refine ⟨a, t, b4, hs, ys, Pre, us, ps, rfl, z4 _ _ ha, rd_same z4 ht, hps.same z4, e4, by omega, by omega, py, srt, fun q H5 s5 eq => ⟨q, rfl, ⟨_, SqL.of eq⟩, fun D1 hD1 => ?_⟩⟩
      have z5 := z4.trans s5
      have few : (nxO ps ys Pre).length ≤ 8 := Nat.le_trans (List.length_filter_le _ _) (by rw [py.length_eq]; exact hl)
      refine lc_list (K := K) (a := q) (xs := (nxO ps ys Pre).map V.str) (fun i H6 => Same H5 H6 ∧ H6 D1 = some (.lst ((((nxO ps ys Pre).take i).filter fun z => decide (h.cps.toList < z.cps.toList)).map V.str))) ⟨same_new hD1, upd_same⟩ (fun i H6 _ z => SqL.of (z.1 _ _ eq)) ?_ ?_
      · rintro i w' H6 hv ⟨z6, e6⟩
        obtain ⟨x, hx, rfl, _⟩ := str_at hv
        have hil := (List.getElem?_eq_some_iff.mp hx).1
        have et : (nxO ps ys Pre).take (i + 1) = (nxO ps ys Pre).take i ++ [x] := by rw [List.take_succ, hx]; rfl
        refine ⟨rfl, _, rfl, _, rfl, _, rfl, r, _, ((Pre.length : Nat) : Int), .str h, rfl, rfl, .inl (.inl ((z5.trans z6) _ _ hrw)), atI_nat (by rw [List.getElem?_map, rP]; rfl), x, h, rfl, rfl, _, rfl, ?_⟩
        rw [et, List.filter_append, List.filter_cons]
        by_cases c : h.cps.toList < x.cps.toList
        · rw [decide_eq_true c, if_pos rfl]
          refine iteT ⟨_, rfl, _, e6, ?_, same_mut z6 hD1, ?_⟩
          · rw [List.length_map]
            exact small1000 (Nat.le_trans (List.length_filter_le _ _) (by rw [List.length_take]; omega))
          · rw [upd_same, List.map_append]
            rfl
        · rw [decide_eq_false c, if_neg Bool.false_ne_true]
          refine iteF ⟨z6, ?_⟩
          rw [e6]
          simp
      · rintro H6 ⟨z6, e6⟩
        rw [List.length_map, List.take_length, enx, gt_filter pwn] at e6
        have z06 := z5.trans z6
        refine ⟨_, rfl, ?_⟩
        dsimp only [tNoPart]
        refine ⟨1, rfl, D1, _, rfl, SqL.of e6, fun q7 hq7 => ?_⟩
        have s7 : Same H6 (upd H6 q7 (.lst (cutV ((h' :: v).map V.str) none (some 1)))) := same_new hq7
        have e7 : (upd H6 q7 (.lst (cutV ((h' :: v).map V.str) none (some 1)))) q7 = some (.lst [.str h']) := by
          rw [upd_same, show (1 : Int) = ((1 : Nat) : Int) from rfl, cutV_to (by simp)]
          rfl
        generalize upd H6 q7 (.lst (cutV ((h' :: v).map V.str) none (some 1))) = H7 at s7 e7 ⊢
        have z7 := z06.trans s7
        refine ⟨_, rfl, _, rfl, o, _, ((Pre.length : Nat) : Int), .str h', rfl, rfl, .inl (.inl (z7 _ _ hot)), atI_nat (by rw [List.getElem?_map, oP]; rfl), by show 1 ≤ sizeLine; decide, fun L8 hL8 => ?_⟩
        have s8 : Same H7 (upd H7 L8 (.lst [.str h'])) := same_new hL8
        have e8 : (upd H7 L8 (.lst [.str h'])) L8 = some (.lst [.str h']) := upd_same
        generalize upd H7 L8 (.lst [.str h']) = H8 at s8 e8 ⊢
        have z8 := z7.trans s8
        have sh : SeqAt.shaped (.list [.str h']) = true := shp_l fun d hd => by rw [List.mem_singleton.mp hd]; exact shp_str (hok h' inh')
        have ev : PyData.eqv (.list [.str h']) (.list [.str h']) = true := by simp [PyData.eqv, PyData.eqvAll]
        refine ⟨.list [.str h'], .list [.str h'], .lst (SqL.of (s8 _ _ e7)) (.cons (.str _) .nil), .lst (SqL.of e8) (.cons (.str _) .nil), sh, sh, _, rfl, ?_⟩
        rw [ev]
        refine iteF ⟨_, rfl, _, rfl, _, rfl, _, rfl, _, _, rfl, rfl, ⟨1, rfl, ?_⟩⟩
        have eat : ((Pre.length : Nat) : Int) + 1 = ((Pre.length + 1 : Nat) : Int) := by omega
        refine ⟨a, t, r, Pre.length + 1, -1, hs, ys, row, us, ps, by rw [← eat]; rfl, z8 _ _ ha, rd_same z8 ht, hps.same z8, z8 _ _ hrw, lr, hl, lp, by omega, py, srt, fun k hk hk2 => ?_, fun H9 s9 => ?_⟩
        · obtain ⟨x, u', hx, en⟩ := lasts k hk (by rw [lr]; exact hk2)
          exact ⟨x, hx, by rw [en, List.map_append]; exact atI_last _ _⟩
        · refine ⟨true, rfl, ?_⟩
          rw [if_pos rfl]
          have z9 := z8.trans s9
          refine ⟨_, rfl, _, rfl, _, rfl, _, rfl, _, _, rfl, rfl, ?_⟩
          refine ⟨a, t, o, Pre.length + 1, 0, hs, ys, other, us, ps, by rw [← eat]; rfl, z9 _ _ ha, rd_same z9 ht, hps.same z9, z9 _ _ hot, lo, hl, lp, by omega, py, srt, fun k hk hk2 => ?_, fun H10 s10 => k H10 (z9.trans s10)⟩
          obtain ⟨x, r', hx, en⟩ := firsts k hk (by rw [lo]; exact hk2)
          exact ⟨x, hx, by rw [en]; exact atI_nat (j := 0) rfl⟩
end
end Ah
set_option Elab.async false
set_option linter.all false
set_option maxRecDepth 100000
set_option maxHeartbeats 8000000
namespace Ah
open PySem PySem.Spec PyProof.Rows L2
abbrev sLaw : Stmt := topS 37
theorem WebAt.kp {p : Addr} {H H' : Hp} (k : Kp p H H') {kvs : List (Key × V)} (hp : H p = some (.dK kvs)) {t : Addr} {us : List V} {hs : List Str} {ps : List (Str × Str)} (h : WebAt H t us hs ps) : WebAt H' t us hs ps :=
  ⟨rd_kp k hp (fun _ z => by cases z) h.at', h.prs.kp k hp, h.rises, h.few, h.mem, h.thru⟩
theorem ltuKp {p a : Addr} {xs : List V} {H H' : Hp} (k : Kp p H H') {kvs : List (Key × V)} (hp : H p = some (.dK kvs)) (h : LTu H a xs) : LTu H' a xs := by
  rcases h with h | h
  · exact .inl (lk_kp k hp (fun _ z => by cases z) h)
  · exact .inr (rd_kp k hp (fun _ z => by cases z) h)
section
variable {P : Program} {w : World} {K : PySem.W.Frag} {mg : Str → Option Value} {base : Heap}
theorem scLaw : FnScope ["script", "pen", "hands", "web", "folk", "many", "first", "last", "k", "number", "row", "other"] ["script"] (defScope sLaw) := ⟨rfl, rfl, rfl, by decide +kernel, rfl, by decide +kernel, by decide +kernel⟩
def spLaw (K : PySem.W.Frag) : Sp := fun vs H Q _ => ∃ (a : Addr) (ns : List Int), vs = [.ref a] ∧ SqL K H a (ns.map V.int) ∧ ns.length ≤ 63 ∧ ∀ H', Q (.bl true) H'
structure Defs (P : Program) (w : World) (K : PySem.W.Frag) (mg : Str → Option Value) (base : Heap) (g1 g2 g3 g4 g5 g6 g7 g8 g9 : Addr) (h1 h2 h3 h4 h5 h6 h7 h8 h9 : FuncData) : Prop where
  pen : Df P w K mg base CX0 "_law_pen" 1 g1 h1 ["script"] (spPen K)
  draw : Df P w K mg base CX0 "_law_draw" 1 g2 h2 ["pen", "many"] spDraw
  hands : Df P w K mg base CX0 "_law_hands" 3 g3 h3 ["pen", "many"] (spHands K)
  web : Df P w K mg base CX0 "_law_web" 4 g4 h4 ["pen", "hands"] spLawWeb
  listed : Df P w K mg base CX0 "_law_listed" 3 g5 h5 ["pen", "hands"] spListed
  count : Df P w K mg base CX0 "count_rows" 6 g6 h6 ["hands", "web"] spCount
  rowAt : Df P w K mg base CX0 "row_at" 6 g7 h7 ["hands", "web", "number"] spRowAt
  isEnd : Df P w K mg base CX0 "_law_is_end" 2 g8 h8 ["hands", "web", "row", "at", "side"] spIsEnd
  isNext : Df P w K mg base CX0 "_law_is_next" 3 g9 h9 ["hands", "web", "row", "other"] spIsNext
theorem ok_law {f g1 g2 g3 g4 g5 g6 g7 g8 g9 : Addr} {fd h1 h2 h3 h4 h5 h6 h7 h8 h9 : FuncData} (F : Fun K "law" "law" sLaw f fd) (B : Blt2 mg) (D : Defs P w K mg base g1 g2 g3 g4 g5 g6 g7 g8 g9 h1 h2 h3 h4 h5 h6 h7 h8 h9) : FnOk P w K mg base CX0 7 f fd ["script"] (spLaw K) := by
  refine F.ok scLaw (fun vs H Q E h => ?_) (fun cdv A outer s H vs Q E hr h => ?_)
  · obtain ⟨a, ns, rfl, _⟩ := h
    rfl
  · obtain ⟨a, ns, rfl, ha, hl, k⟩ := h
    have nd := scLaw.nd
    have r1 : Room 1 _ := hr.mono (by decide)
    have r2 : Room 2 _ := hr.mono (by decide)
    have r3 : Room 3 _ := hr.mono (by decide)
    have r4 : Room 4 _ := hr.mono (by decide)
    refine ⟨_, pss_cons (ps_set (i := 1) nd rfl (.inl rfl) (pe_call D.pen.ok r1 rfl D.pen.g D.pen.kp D.pen.b .nil pass0 (pa_cons (pv 0) pa_nil)))
      (pss_cons (ps_set (i := 2) nd rfl (.inl rfl) (pe_call D.hands.ok r3 rfl D.hands.g D.hands.kp D.hands.b .nil pass0 (pa_cons (pv 1) (pa_cons (pe_op op_add pe_int (pe_call D.draw.ok r1 rfl D.draw.g D.draw.kp D.draw.b .nil pass0 (pa_cons (pv 1) (pa_cons pe_int pa_nil)))) pa_nil))))
      (pss_cons (ps_par (i := 3) (j := 4) rfl nd rfl rfl (by decide) rfl rfl (pa_cons (pe_call D.web.ok r4 rfl D.web.g D.web.kp D.web.b .nil pass0 (pa_cons (pv 1) (pa_cons (pv 2) pa_nil))) (pa_cons (pe_call D.listed.ok r3 rfl D.listed.g D.listed.kp D.listed.b .nil pass0 (pa_cons (pv 1) (pa_cons (pv 2) pa_nil))) pa_nil)) (by rfl))
      (pss_cons (ps_set (i := 5) nd rfl (.inl rfl) (pe_call D.count.ok hr rfl D.count.g D.count.kp D.count.b .nil pass0 (pa_cons (pv 4) (pa_cons (pv 3) pa_nil))))
      (pss_cons (ps_par (i := 6) (j := 7) rfl nd rfl rfl (by decide) rfl rfl (pa_cons (pe_call D.rowAt.ok hr rfl D.rowAt.g D.rowAt.kp D.rowAt.b .nil pass0 (pa_cons (pv 4) (pa_cons (pv 3) (pa_cons pe_int pa_nil)))) (pa_cons (pe_call D.rowAt.ok hr rfl D.rowAt.g D.rowAt.kp D.rowAt.b .nil pass0 (pa_cons (pv 4) (pa_cons (pv 3) (pa_cons (pe_op op_sub (pv 5) pe_int) pa_nil)))) pa_nil)) (by rfl))
      (pss_cons (ps_if (PW.pt (pw_or (pt_cmpR op_ne (pe_callB call_len_seq (by rfl) B.len PySem.boot_len (pa_cons (pv 6) pa_nil)) (pe_callB call_len_seq (by rfl) B.len PySem.boot_len (pa_cons (pv 2) pa_nil)) (nomark _)) (pw_or1 (pt_cmpR op_ne (pe_callB call_len_seq (by rfl) B.len PySem.boot_len (pa_cons (pv 7) pa_nil)) (pe_callB call_len_seq (by rfl) B.len PySem.boot_len (pa_cons (pv 2) pa_nil)) (nomark _))))) (pss_one (ps_ret pe_bl)) pss_nil)
      (pss_cons (ps_if (PW.pt (pw_or (pt_not (pt_val (pe_call D.isEnd.ok r2 rfl D.isEnd.g D.isEnd.kp D.isEnd.b .nil pass0 (pa_cons (pv 2) (pa_cons (pv 3) (pa_cons (pv 6) (pa_cons pe_int (pa_cons pe_int pa_nil)))))))) (pw_or1 (pt_not (pt_val (pe_call D.isEnd.ok r2 rfl D.isEnd.g D.isEnd.kp D.isEnd.b .nil pass0 (pa_cons (pv 2) (pa_cons (pv 3) (pa_cons (pv 7) (pa_cons pe_int (pa_cons (pe_un un_neg pe_int) pa_nil))))))))))) (pss_one (ps_ret pe_bl)) pss_nil)
      (pss_cons (ps_if (pt_cmpR op_gt (pv 5) pe_int (nomark _))
        (pss_one (ps_for PassesOwn.never rfl (pi_range1 rfl B.range (pa_cons pe_int pa_nil)) (pg_name (i := 8) nd rfl (.inl rfl))
          (pss_cons (ps_set (i := 9) nd rfl (.inl rfl) (pe_call D.draw.ok r1 rfl D.draw.g D.draw.kp D.draw.b .nil pass0 (pa_cons (pv 1) (pa_cons (pe_op op_sub (pv 5) pe_int) pa_nil))))
          (pss_cons (ps_par (i := 10) (j := 11) rfl nd rfl rfl (by decide) rfl rfl (pa_cons (pe_call D.rowAt.ok hr rfl D.rowAt.g D.rowAt.kp D.rowAt.b .nil pass0 (pa_cons (pv 4) (pa_cons (pv 3) (pa_cons (pv 9) pa_nil)))) (pa_cons (pe_call D.rowAt.ok hr rfl D.rowAt.g D.rowAt.kp D.rowAt.b .nil pass0 (pa_cons (pv 4) (pa_cons (pv 3) (pa_cons (pe_op op_add (pv 9) pe_int) pa_nil)))) pa_nil)) (by rfl))
          (pss_one (ps_if (PW.pt (pw_or (pt_cmpR op_ne (pe_callB call_len_seq (by rfl) B.len PySem.boot_len (pa_cons (pv 10) pa_nil)) (pe_callB call_len_seq (by rfl) B.len PySem.boot_len (pa_cons (pv 2) pa_nil)) (nomark _))
            (pw_or (pt_cmpR op_ne (pe_callB call_len_seq (by rfl) B.len PySem.boot_len (pa_cons (pv 11) pa_nil)) (pe_callB call_len_seq (by rfl) B.len PySem.boot_len (pa_cons (pv 2) pa_nil)) (nomark _))
            (pw_or1 (pt_not (pt_val (pe_call D.isNext.ok r3 rfl D.isNext.g D.isNext.kp D.isNext.b .nil pass0 (pa_cons (pv 2) (pa_cons (pv 3) (pa_cons (pv 10) (pa_cons (pv 11) pa_nil))))))))))) (pss_one (ps_ret pe_bl)) pss_nil)))))) pss_nil)
      (pss_one (ps_ret pe_bl))))))))), ?_⟩
    refine ⟨_, rfl, a, ns, rfl, ha, fun p c H1 hp1 => ?_⟩
    refine ⟨_, rfl, _, rfl, p, c, 8, _, rfl, hp1, by omega, by decide, by decide, fun d H3 d0 d8 hp3 kp3 => ?_⟩
    obtain ⟨j, rfl⟩ : ∃ j : Nat, d = j := ⟨d.toNat, by omega⟩
    refine ⟨_, _, rfl, rfl, p, c, j + 1, _, by show [V.ref p, V.int ((1 : Int) + (j : Int))] = _; rw [show (1 : Int) + (j : Int) = ((j + 1 : Nat) : Int) by omega], by omega, by omega, hp3, by omega, fun q hs H4 hl4 nd4 hh4 hq4 e4 hp4 kp4 => ?_⟩
    obtain ⟨kv4, hk4⟩ := hp4.dk
    have nqp : q ≠ p := fun e => by rw [e, hk4] at e4; cases e4
    have l8 : hs.length ≤ 8 := by omega
    obtain ⟨ys, py, srt⟩ : ∃ S : List Str, S.Perm hs ∧ S.Pairwise sLt := by
      have tot : ∀ x y : Str, (!decide (sLt y x) || !decide (sLt x y)) = true := fun x y => by
        by_cases z : sLt y x
        · have : ¬ sLt x y := fun w => sLt_irr _ (sLt_trans z w)
          simp [this]
        · simp [z]
      refine ⟨hs.mergeSort (fun x y => !decide (sLt y x)), List.mergeSort_perm _ _, ?_⟩
      have pw := List.pairwise_mergeSort (le := fun x y : Str => !decide (sLt y x)) (fun x y z h k => by
        have h' : ¬ sLt y x := by simpa using h
        have k' : ¬ sLt z y := by simpa using k
        have : ¬ sLt z x := fun w => by
          by_cases v : sLt x y
          · exact k' (sLt_trans w v)
          · have := sLt_tri v h'
            subst this
            exact k' w
        simpa using this) tot hs
      have ndS : (hs.mergeSort (fun x y => !decide (sLt y x))).Nodup := (List.mergeSort_perm _ _).nodup_iff.mpr nd4
      unfold List.Nodup at ndS
      refine (pw.and ndS).imp fun {x y} h => ?_
      have h1 : ¬ sLt y x := by simpa using h.1
      by_cases z : sLt x y
      · exact z
      · exact absurd (sLt_tri z h1) h.2
    have lys := py.length_eq
    have ndy := srt_nodup srt
    refine ⟨_, rfl, _, rfl, p, c, q, hs, ys, _, rfl, e4, hh4, nd4, l8, py, srt, hp4, by omega, fun t us ps row H5 hw5 kr hp5 kp5 => ?_⟩
    obtain ⟨kv5, hk5⟩ := hp5.dk
    have eq5 := kp5 q _ nqp e4
    refine ⟨_, rfl, _, rfl, p, c, q, hs, _, rfl, eq5, hh4, by omega, hp5, by omega, fun b folk H6 pf6 f6 hp6 kp6 => ?_⟩
    obtain ⟨kv6, hk6⟩ := hp6.dk
    have eq6 := kp6 q _ nqp eq5
    have hw6 := hw5.kp kp6 hk5
    have iny : ∀ x y, (x, y) ∈ ps → x ∈ ys ∧ y ∈ ys := fun x y h => ⟨py.mem_iff.mpr (hw6.mem x y h).1, py.mem_iff.mpr (hw6.mem x y h).2.1⟩
    have N := nx_ok ndy kr iny (by omega)
    have webF : ∀ {H : Hp}, WebAt H t us hs ps → WebAt H t us folk ps := fun {H} h => ⟨h.at', h.prs, h.rises, h.few, fun x y m => ⟨pf6.mem_iff.mpr (h.mem x y m).1, pf6.mem_iff.mpr (h.mem x y m).2.1, (h.mem x y m).2.2⟩, h.thru⟩
    have pyf : ys.Perm folk := py.trans pf6.symm
    have lf := pf6.length_eq
    have oky : ∀ x ∈ ys, PyData.strOk x = true := fun x hx => (hh4 x (py.mem_iff.mp hx)).ok
    have cpos := cnt_pos N ys.length Lv.nil
    have cle : cnt (nxO ps ys) ys.length [] ≤ 16777216 := by
      have h1 := cnt_le N ys.length []
      have h2 : 8 ^ ys.length ≤ 8 ^ 8 := Nat.pow_le_pow_right (by decide) (by omega)
      have h3 : (8 : Nat) ^ 8 = 16777216 := by decide
      omega
    refine ⟨_, _, rfl, _, rfl, _, rfl, b, t, us, folk, ys, row, ps, rfl, f6, webF hw6, pyf, srt, by omega, kr, fun H7 s7 => ?_⟩
    generalize hC : cnt (nxO ps ys) ys.length [] = C at cpos cle
    have hw7 := hw6.same s7
    have f7 := f6.same s7
    have eq7 := s7 _ _ eq6
    have hp7 := hp6.keep s7
    refine ⟨_, rfl, _, rfl, b, t, us, folk, ys, row, ps, 0, rfl, f7, webF hw7, pyf, srt, by omega, kr, by rw [hC]; exact cpos, fun r1' H8 s8 e8 => ?_⟩
    have hw8 := hw7.same s8
    have f8 := f7.same s8
    refine ⟨_, rfl, _, rfl, _, rfl, _, _, rfl, rfl, b, t, us, folk, ys, row, ps, C - 1, by show [V.ref b, V.ref t, V.int (((C : Nat) : Int) - 1)] = _; rw [show ((C : Nat) : Int) - 1 = ((C - 1 : Nat) : Int) by omega], f8, webF hw8, pyf, srt, by omega, kr, by rw [hC]; omega, fun r2' H9 s9 e9 => ?_⟩
    have s79 := s8.trans s9
    have hw9 := hw7.same s79
    have f9 := f7.same s79
    have eq9 := s79 _ _ eq7
    have e8' := s9 _ _ e8
    have hp9 := hp7.keep s79
    have lenR : ∀ num, num < C → (rowF (nxO ps ys) ys.length [] num).length = hs.length := fun num h => by
      rw [rowF_len N ys.length (by rw [hC]; exact h)]
      exact lys
    have l1 := lenR 0 cpos
    have l2 := lenR (C - 1) (by omega)
    have lmh : (hs.map V.str).length = hs.length := List.length_map ..
    have neF : ∀ {x y : Nat}, x = y → (!decide (V.int ((x : Nat) : Int) = V.int ((y : Nat) : Int))) = false := fun {x y} e => by rw [e, decide_eq_true rfl]; rfl
    refine ⟨_, _, rfl, _, rfl, r1', _, rfl, .inr (.inl (.inl e8')), _, rfl, q, _, rfl, .inl (SqL.of eq9), rfl, _, rfl, ?_⟩
    rw [neF (by rw [List.length_map, List.length_map]; exact l1)]
    refine iteF ⟨_, rfl, r2', _, rfl, .inr (.inl (.inl e9)), _, rfl, q, _, rfl, .inl (SqL.of eq9), rfl, _, rfl, ?_⟩
    rw [neF (by rw [List.length_map, List.length_map]; exact l2)]
    have fAt := first_at N ys.length Lv.nil
    have lAt := last_at N ys.length Lv.nil
    rw [List.nil_append] at fAt lAt
    rw [hC] at lAt
    refine iteF ⟨_, rfl, _, rfl, _, rfl, q, t, r1', 0, 0, hs, ys, _, us, ps, rfl, eq9, hw9.at', hw9.prs, e8', l1, l8, hw9.few, by omega, py, srt, fun k hk hk2 => ?_, fun H10 s10 => ⟨true, rfl, ?_⟩⟩
    · obtain ⟨x, r', hx, en⟩ := fAt k (Nat.zero_le _) (by omega)
      exact ⟨x, hx, by rw [en]; exact atI_nat (j := 0) rfl⟩
    have hw10 := hw9.same s10
    have eq10 := s10 _ _ eq9
    refine iteF ⟨_, rfl, _, rfl, _, rfl, ⟨1, rfl, q, t, r2', 0, -1, hs, ys, _, us, ps, rfl, eq10, hw10.at', hw10.prs, s10 _ _ e9, l2, l8, hw10.few, by omega, py, srt, fun k hk hk2 => ?_, fun H11 s11 => ⟨true, rfl, ?_⟩⟩⟩
    · obtain ⟨x, u', hx, en⟩ := lAt k (Nat.zero_le _) (by omega)
      exact ⟨x, hx, by rw [en, List.map_append]; exact atI_last _ _⟩
    have s911 := s10.trans s11
    have hw11 := hw9.same s911
    have f11 := f9.same s911
    have eq11 := s911 _ _ eq9
    have hp11 := hp9.keep s911
    refine iteF ⟨_, rfl, _, _, rfl, rfl, _, rfl, ?_⟩
    by_cases cm : 1 < C
    · rw [decide_eq_true (show (1 : Int) < ((C : Nat) : Int) by omega)]
      refine iteT ⟨4, rfl, by decide, by decide, ?_⟩
      refine for_range (lo := 0) (n := 4) (fun i σ H2 => ∃ (m8 m9 m10 m11 : Option V), σ = [some (.ref a), some (.ref p), some (.ref q), some (.ref t), some (.ref b), some (.int (C : Int)), some (.ref r1'), some (.ref r2'), m8, m9, m10, m11] ∧ PenAt H2 p c (2000 + i) ∧ Kp p H11 H2)
        ⟨_, _, _, _, rfl, ?_, Kp.refl _ _⟩ ?_ ?_
      · exact hp11.mono (by omega)
      · rintro i σ H2 hi ⟨m8, m9, m10, m11, rfl, hp2, kp2⟩
        obtain ⟨kv11, hk11⟩ := hp11.dk
        obtain ⟨kv2, hk2⟩ := hp2.dk
        refine ⟨_, rfl, _, rfl, _, _, rfl, rfl, p, c, ((C - 1 : Nat) : Int), _, by show [V.ref p, V.int (((C : Nat) : Int) - 1)] = _; rw [show ((C : Nat) : Int) - 1 = ((C - 1 : Nat) : Int) by omega], hp2, by omega, by omega, by omega, fun d H12 dd0 dd1 hp12 kp12 => ?_⟩
        obtain ⟨num, rfl⟩ : ∃ j : Nat, d = j := ⟨d.toNat, by omega⟩
        have hnum : num + 1 < C := by omega
        have kp' := kp2.trans kp12
        have hw12 := hw11.kp kp' hk11
        have f12 := ltuKp kp' hk11 f11
        have eq12 := kp' q _ nqp eq11
        refine ⟨_, rfl, _, rfl, _, rfl, b, t, us, folk, ys, row, ps, num, rfl, f12, webF hw12, pyf, srt, by omega, kr, by rw [hC]; omega, fun ra H13 s13 ea => ?_⟩
        refine ⟨_, rfl, _, rfl, _, rfl, _, _, rfl, rfl, b, t, us, folk, ys, row, ps, num + 1, by show [V.ref b, V.ref t, V.int (((num : Nat) : Int) + 1)] = _; rw [show ((num : Nat) : Int) + 1 = ((num + 1 : Nat) : Int) by omega], f12.same s13, webF (hw12.same s13), pyf, srt, by omega, kr, by rw [hC]; omega, fun ro H14 s14 eo => ?_⟩
        have s34 := s13.trans s14
        have eq14 := s34 _ _ eq12
        have ea14 := s14 _ _ ea
        have hw14 := hw12.same s34
        have la := lenR num (by omega)
        have lo := lenR (num + 1) (by omega)
        refine ⟨_, _, rfl, _, rfl, ra, _, rfl, .inr (.inl (.inl ea14)), _, rfl, q, _, rfl, .inl (SqL.of eq14), rfl, _, rfl, ?_⟩
        rw [neF (by rw [List.length_map, List.length_map]; exact la)]
        refine iteF ⟨_, rfl, ro, _, rfl, .inr (.inl (.inl eo)), _, rfl, q, _, rfl, .inl (SqL.of eq14), rfl, _, rfl, ?_⟩
        rw [neF (by rw [List.length_map, List.length_map]; exact lo)]
        have nt := next_to N ys.length (m := []) (k := num) Lv.nil (by rw [hC]; exact hnum)
        rw [List.nil_append, List.nil_append] at nt
        refine iteF ⟨_, rfl, _, rfl, _, rfl, _, rfl, q, t, ra, ro, hs, ys, _, _, us, ps, rfl, eq14, hw14.at', hw14.prs, ea14, eo, la, lo, l8, hw14.few, py, srt, oky, nt, fun H15 s15 => ⟨true, rfl, ?_⟩⟩
        have s35 := s34.trans s15
        refine iteF ⟨_, _, _, _, rfl, ?_, kp'.trans (Kp.same s35)⟩
        have := hp12.keep s35
        exact this
      · rintro σ H2 _
        exact k H2
    · rw [decide_eq_false (show ¬ (1 : Int) < ((C : Nat) : Int) by omega)]
      exact iteF (k _)
end
end Ah
set_option Elab.async false
set_option linter.all false
set_option maxRecDepth 100000
set_option maxHeartbeats 8000000
namespace Ah
open PySem PySem.Spec PyProof.Rows L2

theorem all_mk {l : PySem.W.OpenLaw} {w : World} {K : PySem.W.Frag} {h : Heap} {mg : Str → Option Value} {fa f1 f2 f3 f4 f5 f6 f7 f8 f9 f10 f11 f12 f13 f14 f15 f16 f17 f18 f19 f20 f21 f22 f23 f24 f25 f26 f27 f28 f29 : Addr} (X : K.In h) (G : h.Ns mainGlobals mg) (hfa : mg "law" = some (.ref fa))
    {od1 an1 od2 an2 od3 an3 od4 an4 od5 an5 od6 an6 od7 an7 od8 an8 od9 an9 od10 an10 od11 an11 od12 an12 od13 an13 od14 an14 od15 an15 od16 an16 od17 an17 od18 an18 od19 an19 od20 an20 od21 an21 od22 an22 od23 an23 od24 an24 od25 an25 od26 an26 od27 an27 od28 an28 od29 an29 : Option Addr} {sl1 sl2 sl3 sl4 sl5 sl6 sl7 sl8 sl9 sl10 sl11 sl12 sl13 sl14 sl15 sl16 sl17 sl18 sl19 sl20 sl21 sl22 sl23 sl24 sl25 sl26 sl27 sl28 sl29 : Array (Option Value)} {oc1 kV1 dc1 pm1 cd1 ct1 oc2 kV2 dc2 pm2 cd2 ct2 oc3 kV3 dc3 pm3 cd3 ct3 oc4 kV4 dc4 pm4 cd4 ct4 oc5 kV5 dc5 pm5 cd5 ct5 oc6 kV6 dc6 pm6 cd6 ct6 oc7 kV7 dc7 pm7 cd7 ct7 oc8 kV8 dc8 pm8 cd8 ct8 oc9 kV9 dc9 pm9 cd9 ct9 oc10 kV10 dc10 pm10 cd10 ct10 oc11 kV11 dc11 pm11 cd11 ct11 oc12 kV12 dc12 pm12 cd12 ct12 oc13 kV13 dc13 pm13 cd13 ct13 oc14 kV14 dc14 pm14 cd14 ct14 oc15 kV15 dc15 pm15 cd15 ct15 oc16 kV16 dc16 pm16 cd16 ct16 oc17 kV17 dc17 pm17 cd17 ct17 oc18 kV18 dc18 pm18 cd18 ct18 oc19 kV19 dc19 pm19 cd19 ct19 oc20 kV20 dc20 pm20 cd20 ct20 oc21 kV21 dc21 pm21 cd21 ct21 oc22 kV22 dc22 pm22 cd22 ct22 oc23 kV23 dc23 pm23 cd23 ct23 oc24 kV24 dc24 pm24 cd24 ct24 oc25 kV25 dc25 pm25 cd25 ct25 oc26 kV26 dc26 pm26 cd26 ct26 oc27 kV27 dc27 pm27 cd27 ct27 oc28 kV28 dc28 pm28 cd28 ct28 oc29 kV29 dc29 pm29 cd29 ct29 : Value}
    (a1 : PySem.W.nsIn K mainGlobals "is_number" = some (some (.ref f1)))
    (l1 : K.lookup f1 = some ⟨oc1, od1, .func (PySem.W.fnOf "is_number" "is_number" (defArgs sIsNumber) (defBody sIsNumber) (defScope sIsNumber) .none kV1 dc1 pm1 an1 cd1 ct1), sl1⟩)
    (c1 : PySem.W.codeIn K cd1 "is_number" = true)
    (k1 : PySem.W.keepIn K (.ref f1) = true)
    (a2 : PySem.W.nsIn K mainGlobals "is_rising" = some (some (.ref f2)))
    (l2 : K.lookup f2 = some ⟨oc2, od2, .func (PySem.W.fnOf "is_rising" "is_rising" (defArgs sRising) (defBody sRising) (defScope sRising) .none kV2 dc2 pm2 an2 cd2 ct2), sl2⟩)
    (c2 : PySem.W.codeIn K cd2 "is_rising" = true)
    (k2 : PySem.W.keepIn K (.ref f2) = true)
    (a3 : PySem.W.nsIn K mainGlobals "sets_of" = some (some (.ref f3)))
    (l3 : K.lookup f3 = some ⟨oc3, od3, .func (PySem.W.fnOf "sets_of" "sets_of" (defArgs sSets) (defBody sSets) (defScope sSets) .none kV3 dc3 pm3 an3 cd3 ct3), sl3⟩)
    (c3 : PySem.W.codeIn K cd3 "sets_of" = true)
    (k3 : PySem.W.keepIn K (.ref f3) = true)
    (a4 : PySem.W.nsIn K mainGlobals "sets_at" = some (some (.ref f4)))
    (l4 : K.lookup f4 = some ⟨oc4, od4, .func (PySem.W.fnOf "sets_at" "sets_at" (defArgs sSetsAt) (defBody sSetsAt) (defScope sSetsAt) .none kV4 dc4 pm4 an4 cd4 ct4), sl4⟩)
    (c4 : PySem.W.codeIn K cd4 "sets_at" = true)
    (k4 : PySem.W.keepIn K (.ref f4) = true)
    (a5 : PySem.W.nsIn K mainGlobals "united" = some (some (.ref f5)))
    (l5 : K.lookup f5 = some ⟨oc5, od5, .func (PySem.W.fnOf "united" "united" (defArgs sUnited) (defBody sUnited) (defScope sUnited) .none kV5 dc5 pm5 an5 cd5 ct5), sl5⟩)
    (c5 : PySem.W.codeIn K cd5 "united" = true)
    (k5 : PySem.W.keepIn K (.ref f5) = true)
    (a6 : PySem.W.nsIn K mainGlobals "is_web" = some (some (.ref f6)))
    (l6 : K.lookup f6 = some ⟨oc6, od6, .func (PySem.W.fnOf "is_web" "is_web" (defArgs sIsWeb) (defBody sIsWeb) (defScope sIsWeb) .none kV6 dc6 pm6 an6 cd6 ct6), sl6⟩)
    (c6 : PySem.W.codeIn K cd6 "is_web" = true)
    (k6 : PySem.W.keepIn K (.ref f6) = true)
    (a7 : PySem.W.nsIn K mainGlobals "is_pair" = some (some (.ref f7)))
    (l7 : K.lookup f7 = some ⟨oc7, od7, .func (PySem.W.fnOf "is_pair" "is_pair" (defArgs sIsPair) (defBody sIsPair) (defScope sIsPair) .none kV7 dc7 pm7 an7 cd7 ct7), sl7⟩)
    (c7 : PySem.W.codeIn K cd7 "is_pair" = true)
    (k7 : PySem.W.keepIn K (.ref f7) = true)
    (a8 : PySem.W.nsIn K mainGlobals "check_web" = some (some (.ref f8)))
    (l8 : K.lookup f8 = some ⟨oc8, od8, .func (PySem.W.fnOf "check_web" "check_web" (defArgs sCheckWeb) (defBody sCheckWeb) (defScope sCheckWeb) .none kV8 dc8 pm8 an8 cd8 ct8), sl8⟩)
    (c8 : PySem.W.codeIn K cd8 "check_web" = true)
    (k8 : PySem.W.keepIn K (.ref f8) = true)
    (a9 : PySem.W.nsIn K mainGlobals "heads" = some (some (.ref f9)))
    (l9 : K.lookup f9 = some ⟨oc9, od9, .func (PySem.W.fnOf "heads" "heads" (defArgs sHeads) (defBody sHeads) (defScope sHeads) .none kV9 dc9 pm9 an9 cd9 ct9), sl9⟩)
    (c9 : PySem.W.codeIn K cd9 "heads" = true)
    (k9 : PySem.W.keepIn K (.ref f9) = true)
    (a10 : PySem.W.nsIn K mainGlobals "has_all_ahead" = some (some (.ref f10)))
    (l10 : K.lookup f10 = some ⟨oc10, od10, .func (PySem.W.fnOf "has_all_ahead" "has_all_ahead" (defArgs sAllAhead) (defBody sAllAhead) (defScope sAllAhead) .none kV10 dc10 pm10 an10 cd10 ct10), sl10⟩)
    (c10 : PySem.W.codeIn K cd10 "has_all_ahead" = true)
    (k10 : PySem.W.keepIn K (.ref f10) = true)
    (a11 : PySem.W.nsIn K mainGlobals "free_behind" = some (some (.ref f11)))
    (l11 : K.lookup f11 = some ⟨oc11, od11, .func (PySem.W.fnOf "free_behind" "free_behind" (defArgs sFree) (defBody sFree) (defScope sFree) .none kV11 dc11 pm11 an11 cd11 ct11), sl11⟩)
    (c11 : PySem.W.codeIn K cd11 "free_behind" = true)
    (k11 : PySem.W.keepIn K (.ref f11) = true)
    (a12 : PySem.W.nsIn K mainGlobals "count_rows" = some (some (.ref f12)))
    (l12 : K.lookup f12 = some ⟨oc12, od12, .func (PySem.W.fnOf "count_rows" "count_rows" (defArgs sCount) (defBody sCount) (defScope sCount) .none kV12 dc12 pm12 an12 cd12 ct12), sl12⟩)
    (c12 : PySem.W.codeIn K cd12 "count_rows" = true)
    (k12 : PySem.W.keepIn K (.ref f12) = true)
    (a13 : PySem.W.nsIn K mainGlobals "row_at" = some (some (.ref f13)))
    (l13 : K.lookup f13 = some ⟨oc13, od13, .func (PySem.W.fnOf "row_at" "row_at" (defArgs sRowAt) (defBody sRowAt) (defScope sRowAt) .none kV13 dc13 pm13 an13 cd13 ct13), sl13⟩)
    (c13 : PySem.W.codeIn K cd13 "row_at" = true)
    (k13 : PySem.W.keepIn K (.ref f13) = true)
    (a14 : PySem.W.nsIn K mainGlobals "orders_behind" = some (some (.ref f14)))
    (l14 : K.lookup f14 = some ⟨oc14, od14, .func (PySem.W.fnOf "orders_behind" "orders_behind" (defArgs sOrders) (defBody sOrders) (defScope sOrders) .none kV14 dc14 pm14 an14 cd14 ct14), sl14⟩)
    (c14 : PySem.W.codeIn K cd14 "orders_behind" = true)
    (k14 : PySem.W.keepIn K (.ref f14) = true)
    (a15 : PySem.W.nsIn K mainGlobals "step_at" = some (some (.ref f15)))
    (l15 : K.lookup f15 = some ⟨oc15, od15, .func (PySem.W.fnOf "step_at" "step_at" (defArgs sStep) (defBody sStep) (defScope sStep) .none kV15 dc15 pm15 an15 cd15 ct15), sl15⟩)
    (c15 : PySem.W.codeIn K cd15 "step_at" = true)
    (k15 : PySem.W.keepIn K (.ref f15) = true)
    (a16 : PySem.W.nsIn K mainGlobals "_law_pen" = some (some (.ref f16)))
    (l16 : K.lookup f16 = some ⟨oc16, od16, .func (PySem.W.fnOf "_law_pen" "_law_pen" (defArgs sPen) (defBody sPen) (defScope sPen) .none kV16 dc16 pm16 an16 cd16 ct16), sl16⟩)
    (c16 : PySem.W.codeIn K cd16 "_law_pen" = true)
    (k16 : PySem.W.keepIn K (.ref f16) = true)
    (a17 : PySem.W.nsIn K mainGlobals "_law_draw" = some (some (.ref f17)))
    (l17 : K.lookup f17 = some ⟨oc17, od17, .func (PySem.W.fnOf "_law_draw" "_law_draw" (defArgs sDraw) (defBody sDraw) (defScope sDraw) .none kV17 dc17 pm17 an17 cd17 ct17), sl17⟩)
    (c17 : PySem.W.codeIn K cd17 "_law_draw" = true)
    (k17 : PySem.W.keepIn K (.ref f17) = true)
    (a18 : PySem.W.nsIn K mainGlobals "_law_pick" = some (some (.ref f18)))
    (l18 : K.lookup f18 = some ⟨oc18, od18, .func (PySem.W.fnOf "_law_pick" "_law_pick" (defArgs sPick) (defBody sPick) (defScope sPick) .none kV18 dc18 pm18 an18 cd18 ct18), sl18⟩)
    (c18 : PySem.W.codeIn K cd18 "_law_pick" = true)
    (k18 : PySem.W.keepIn K (.ref f18) = true)
    (a19 : PySem.W.nsIn K mainGlobals "_law_shuffled" = some (some (.ref f19)))
    (l19 : K.lookup f19 = some ⟨oc19, od19, .func (PySem.W.fnOf "_law_shuffled" "_law_shuffled" (defArgs sShuf) (defBody sShuf) (defScope sShuf) .none kV19 dc19 pm19 an19 cd19 ct19), sl19⟩)
    (c19 : PySem.W.codeIn K cd19 "_law_shuffled" = true)
    (k19 : PySem.W.keepIn K (.ref f19) = true)
    (a20 : PySem.W.nsIn K mainGlobals "_law_hands" = some (some (.ref f20)))
    (l20 : K.lookup f20 = some ⟨oc20, od20, .func (PySem.W.fnOf "_law_hands" "_law_hands" (defArgs sHands) (defBody sHands) (defScope sHands) .none kV20 dc20 pm20 an20 cd20 ct20), sl20⟩)
    (c20 : PySem.W.codeIn K cd20 "_law_hands" = true)
    (k20 : PySem.W.keepIn K (.ref f20) = true)
    (a21 : PySem.W.nsIn K mainGlobals "_law_nexts" = some (some (.ref f21)))
    (l21 : K.lookup f21 = some ⟨oc21, od21, .func (PySem.W.fnOf "_law_nexts" "_law_nexts" (defArgs sNexts) (defBody sNexts) (defScope sNexts) .none kV21 dc21 pm21 an21 cd21 ct21), sl21⟩)
    (c21 : PySem.W.codeIn K cd21 "_law_nexts" = true)
    (k21 : PySem.W.keepIn K (.ref f21) = true)
    (a22 : PySem.W.nsIn K mainGlobals "_law_row" = some (some (.ref f22)))
    (l22 : K.lookup f22 = some ⟨oc22, od22, .func (PySem.W.fnOf "_law_row" "_law_row" (defArgs sLawRow) (defBody sLawRow) (defScope sLawRow) .none kV22 dc22 pm22 an22 cd22 ct22), sl22⟩)
    (c22 : PySem.W.codeIn K cd22 "_law_row" = true)
    (k22 : PySem.W.keepIn K (.ref f22) = true)
    (a23 : PySem.W.nsIn K mainGlobals "_law_listed" = some (some (.ref f23)))
    (l23 : K.lookup f23 = some ⟨oc23, od23, .func (PySem.W.fnOf "_law_listed" "_law_listed" (defArgs sListed) (defBody sListed) (defScope sListed) .none kV23 dc23 pm23 an23 cd23 ct23), sl23⟩)
    (c23 : PySem.W.codeIn K cd23 "_law_listed" = true)
    (k23 : PySem.W.keepIn K (.ref f23) = true)
    (a24 : PySem.W.nsIn K mainGlobals "_law_pairs_of_row" = some (some (.ref f24)))
    (l24 : K.lookup f24 = some ⟨oc24, od24, .func (PySem.W.fnOf "_law_pairs_of_row" "_law_pairs_of_row" (defArgs sPairsRow) (defBody sPairsRow) (defScope sPairsRow) .none kV24 dc24 pm24 an24 cd24 ct24), sl24⟩)
    (c24 : PySem.W.codeIn K cd24 "_law_pairs_of_row" = true)
    (k24 : PySem.W.keepIn K (.ref f24) = true)
    (a25 : PySem.W.nsIn K mainGlobals "_law_closed" = some (some (.ref f25)))
    (l25 : K.lookup f25 = some ⟨oc25, od25, .func (PySem.W.fnOf "_law_closed" "_law_closed" (defArgs sLawClosed) (defBody sLawClosed) (defScope sLawClosed) .none kV25 dc25 pm25 an25 cd25 ct25), sl25⟩)
    (c25 : PySem.W.codeIn K cd25 "_law_closed" = true)
    (k25 : PySem.W.keepIn K (.ref f25) = true)
    (a26 : PySem.W.nsIn K mainGlobals "_law_web" = some (some (.ref f26)))
    (l26 : K.lookup f26 = some ⟨oc26, od26, .func (PySem.W.fnOf "_law_web" "_law_web" (defArgs sLawWeb) (defBody sLawWeb) (defScope sLawWeb) .none kV26 dc26 pm26 an26 cd26 ct26), sl26⟩)
    (c26 : PySem.W.codeIn K cd26 "_law_web" = true)
    (k26 : PySem.W.keepIn K (.ref f26) = true)
    (a27 : PySem.W.nsIn K mainGlobals "_law_is_end" = some (some (.ref f27)))
    (l27 : K.lookup f27 = some ⟨oc27, od27, .func (PySem.W.fnOf "_law_is_end" "_law_is_end" (defArgs sIsEnd) (defBody sIsEnd) (defScope sIsEnd) .none kV27 dc27 pm27 an27 cd27 ct27), sl27⟩)
    (c27 : PySem.W.codeIn K cd27 "_law_is_end" = true)
    (k27 : PySem.W.keepIn K (.ref f27) = true)
    (a28 : PySem.W.nsIn K mainGlobals "_law_is_next" = some (some (.ref f28)))
    (l28 : K.lookup f28 = some ⟨oc28, od28, .func (PySem.W.fnOf "_law_is_next" "_law_is_next" (defArgs sIsNext) (defBody sIsNext) (defScope sIsNext) .none kV28 dc28 pm28 an28 cd28 ct28), sl28⟩)
    (c28 : PySem.W.codeIn K cd28 "_law_is_next" = true)
    (k28 : PySem.W.keepIn K (.ref f28) = true)
    (a29 : PySem.W.nsIn K mainGlobals "law" = some (some (.ref f29)))
    (l29 : K.lookup f29 = some ⟨oc29, od29, .func (PySem.W.fnOf "law" "law" (defArgs sLaw) (defBody sLaw) (defScope sLaw) .none kV29 dc29 pm29 an29 cd29 ct29), sl29⟩)
    (c29 : PySem.W.codeIn K cd29 "law" = true)
    (k29 : PySem.W.keepIn K (.ref f29) = true)
    (z_len : PySem.W.nsIn K mainGlobals "len" = some none)
    (z_abs : PySem.W.nsIn K mainGlobals "abs" = some none)
    (z_list : PySem.W.nsIn K mainGlobals "list" = some none)
    (z_isinstance : PySem.W.nsIn K mainGlobals "isinstance" = some none)
    (z_str : PySem.W.nsIn K mainGlobals "str" = some none)
    (z_tuple : PySem.W.nsIn K mainGlobals "tuple" = some none)
    (z_dict : PySem.W.nsIn K mainGlobals "dict" = some none)
    (z_all : PySem.W.nsIn K mainGlobals "all" = some none)
    (z_set : PySem.W.nsIn K mainGlobals "set" = some none)
    (z_enumerate : PySem.W.nsIn K mainGlobals "enumerate" = some none)
    (z_sorted : PySem.W.nsIn K mainGlobals "sorted" = some none)
    (z_range : PySem.W.nsIn K mainGlobals "range" = some none)
    (z_sum : PySem.W.nsIn K mainGlobals "sum" = some none)
    (z_int : PySem.W.nsIn K mainGlobals "int" = some none)
    (z_bool : PySem.W.nsIn K mainGlobals "bool" = some none) :
    ∃ fd : FuncData, (∀ (s : Shared) (v : Value), BindsTo s fd ⟨[v], []⟩ [("script", v)]) ∧ ∀ base : Heap, K.In base → base.Ns mainGlobals mg → FnOk l.prog w K mg base CX0 7 fa fd ["script"] (spLaw K) := by
  have e := hfa.symm.trans (PySem.W.mg_of X G a29)
  cases e
  have B1 : Blt mg := ⟨PySem.W.mg_none_of X G z_len, PySem.W.mg_none_of X G z_abs, PySem.W.mg_none_of X G z_list⟩
  have B2 : Blt2 mg := ⟨PySem.W.mg_none_of X G z_isinstance, PySem.W.mg_none_of X G z_str, PySem.W.mg_none_of X G z_list, PySem.W.mg_none_of X G z_tuple, PySem.W.mg_none_of X G z_dict, PySem.W.mg_none_of X G z_all, PySem.W.mg_none_of X G z_set, PySem.W.mg_none_of X G z_len, PySem.W.mg_none_of X G z_enumerate, PySem.W.mg_none_of X G z_sorted, PySem.W.mg_none_of X G z_range⟩
  have F1 := fun_mk (st := sIsNumber) l1 c1 k1
  have b1 := F1.binds (ps := ["thing"]) fun _ _ _ _ _ _ us hl => match us, hl with | [_], _ => rfl
  have F2 := fun_mk (st := sRising) l2 c2 k2
  have b2 := F2.binds (ps := ["things"]) fun _ _ _ _ _ _ us hl => match us, hl with | [_], _ => rfl
  have F3 := fun_mk (st := sSets) l3 c3 k3
  have b3 := F3.binds (ps := ["hands"]) fun _ _ _ _ _ _ us hl => match us, hl with | [_], _ => rfl
  have F4 := fun_mk (st := sSetsAt) l4 c4 k4
  have b4 := F4.binds (ps := ["hands"]) fun _ _ _ _ _ _ us hl => match us, hl with | [_], _ => rfl
  have F5 := fun_mk (st := sUnited) l5 c5 k5
  have b5 := F5.binds (ps := ["one", "other"]) fun _ _ _ _ _ _ us hl => match us, hl with | [_, _], _ => rfl
  have F6 := fun_mk (st := sIsWeb) l6 c6 k6
  have b6 := F6.binds (ps := ["hands", "thing"]) fun _ _ _ _ _ _ us hl => match us, hl with | [_, _], _ => rfl
  have F7 := fun_mk (st := sIsPair) l7 c7 k7
  have b7 := F7.binds (ps := ["hands", "thing"]) fun _ _ _ _ _ _ us hl => match us, hl with | [_, _], _ => rfl
  have F8 := fun_mk (st := sCheckWeb) l8 c8 k8
  have b8 := F8.binds (ps := ["hands", "web"]) fun _ _ _ _ _ _ us hl => match us, hl with | [_, _], _ => rfl
  have F9 := fun_mk (st := sHeads) l9 c9 k9
  have b9 := F9.binds (ps := ["hands", "web"]) fun _ _ _ _ _ _ us hl => match us, hl with | [_, _], _ => rfl
  have F10 := fun_mk (st := sAllAhead) l10 c10 k10
  have b10 := F10.binds (ps := ["web", "members"]) fun _ _ _ _ _ _ us hl => match us, hl with | [_, _], _ => rfl
  have F11 := fun_mk (st := sFree) l11 c11 k11
  have b11 := F11.binds (ps := ["hands", "web", "head"]) fun _ _ _ _ _ _ us hl => match us, hl with | [_, _, _], _ => rfl
  have F12 := fun_mk (st := sCount) l12 c12 k12
  have b12 := F12.binds (ps := ["hands", "web"]) fun _ _ _ _ _ _ us hl => match us, hl with | [_, _], _ => rfl
  have F13 := fun_mk (st := sRowAt) l13 c13 k13
  have b13 := F13.binds (ps := ["hands", "web", "number"]) fun _ _ _ _ _ _ us hl => match us, hl with | [_, _, _], _ => rfl
  have F14 := fun_mk (st := sOrders) l14 c14 k14
  have b14 := F14.binds (ps := ["hands", "web"]) fun _ _ _ _ _ _ us hl => match us, hl with | [_, _], _ => rfl
  have F15 := fun_mk (st := sStep) l15 c15 k15
  have b15 := F15.binds (ps := ["hands", "web", "counts", "row", "number"]) fun _ _ _ _ _ _ us hl => match us, hl with | [_, _, _, _, _], _ => rfl
  have F16 := fun_mk (st := sPen) l16 c16 k16
  have b16 := F16.binds (ps := ["script"]) fun _ _ _ _ _ _ us hl => match us, hl with | [_], _ => rfl
  have F17 := fun_mk (st := sDraw) l17 c17 k17
  have b17 := F17.binds (ps := ["pen", "many"]) fun _ _ _ _ _ _ us hl => match us, hl with | [_, _], _ => rfl
  have F18 := fun_mk (st := sPick) l18 c18 k18
  have b18 := F18.binds (ps := ["pen", "some"]) fun _ _ _ _ _ _ us hl => match us, hl with | [_, _], _ => rfl
  have F19 := fun_mk (st := sShuf) l19 c19 k19
  have b19 := F19.binds (ps := ["pen", "some"]) fun _ _ _ _ _ _ us hl => match us, hl with | [_, _], _ => rfl
  have F20 := fun_mk (st := sHands) l20 c20 k20
  have b20 := F20.binds (ps := ["pen", "many"]) fun _ _ _ _ _ _ us hl => match us, hl with | [_, _], _ => rfl
  have F21 := fun_mk (st := sNexts) l21 c21 k21
  have b21 := F21.binds (ps := ["hands", "web", "head"]) fun _ _ _ _ _ _ us hl => match us, hl with | [_, _, _], _ => rfl
  have F22 := fun_mk (st := sLawRow) l22 c22 k22
  have b22 := F22.binds (ps := ["pen", "hands"]) fun _ _ _ _ _ _ us hl => match us, hl with | [_, _], _ => rfl
  have F23 := fun_mk (st := sListed) l23 c23 k23
  have b23 := F23.binds (ps := ["pen", "hands"]) fun _ _ _ _ _ _ us hl => match us, hl with | [_, _], _ => rfl
  have F24 := fun_mk (st := sPairsRow) l24 c24 k24
  have b24 := F24.binds (ps := ["pen", "row"]) fun _ _ _ _ _ _ us hl => match us, hl with | [_, _], _ => rfl
  have F25 := fun_mk (st := sLawClosed) l25 c25 k25
  have b25 := F25.binds (ps := ["pairs"]) fun _ _ _ _ _ _ us hl => match us, hl with | [_], _ => rfl
  have F26 := fun_mk (st := sLawWeb) l26 c26 k26
  have b26 := F26.binds (ps := ["pen", "hands"]) fun _ _ _ _ _ _ us hl => match us, hl with | [_, _], _ => rfl
  have F27 := fun_mk (st := sIsEnd) l27 c27 k27
  have b27 := F27.binds (ps := ["hands", "web", "row", "at", "side"]) fun _ _ _ _ _ _ us hl => match us, hl with | [_, _, _, _, _], _ => rfl
  have F28 := fun_mk (st := sIsNext) l28 c28 k28
  have b28 := F28.binds (ps := ["hands", "web", "row", "other"]) fun _ _ _ _ _ _ us hl => match us, hl with | [_, _, _, _], _ => rfl
  have F29 := fun_mk (st := sLaw) l29 c29 k29
  have b29 := F29.binds (ps := ["script"]) fun _ _ _ _ _ _ us hl => match us, hl with | [_], _ => rfl
  refine ⟨PySem.W.fnOf "law" "law" (defArgs sLaw) (defBody sLaw) (defScope sLaw) .none kV29 dc29 pm29 an29 cd29 ct29, fun s v => .of_eq rfl, fun base _ _ => ?_⟩
  have dNum : Df l.prog w K mg base CX0 "is_number" 1 f1 _ ["thing"] spIsNumber := ⟨ok_isNumber F1 B2 (PySem.W.mg_none_of X G z_int) (PySem.W.mg_none_of X G z_bool), PySem.W.mg_of X G a1, k1, b1⟩
  have dRis : Df l.prog w K mg base CX0 "is_rising" 1 f2 _ ["things"] spRising := ⟨ok_rising F2 B2, PySem.W.mg_of X G a2, k2, b2⟩
  have dSetsAt : Df l.prog w K mg base CX0 "sets_at" 1 f4 _ ["hands"] spSetsAt := ⟨ok_setsAt F4 B2, PySem.W.mg_of X G a4, k4, b4⟩
  have dSets : Df l.prog w K mg base CX0 "sets_of" 2 f3 _ ["hands"] spSets := ⟨ok_sets F3 B2 dSetsAt, PySem.W.mg_of X G a3, k3, b3⟩
  have dUn : Df l.prog w K mg base CX0 "united" 1 f5 _ ["one", "other"] spUnited := ⟨ok_united F5 B2, PySem.W.mg_of X G a5, k5, b5⟩
  have dPair : Df l.prog w K mg base CX0 "is_pair" 1 f7 _ ["hands", "thing"] spIsPair := ⟨ok_isPair F7 B2, PySem.W.mg_of X G a7, k7, b7⟩
  have dWeb : Df l.prog w K mg base CX0 "is_web" 2 f6 _ ["hands", "thing"] spIsWeb := ⟨ok_isWeb F6 B2 dPair dRis, PySem.W.mg_of X G a6, k6, b6⟩
  have dCW : Df l.prog w K mg base CX0 "check_web" 3 f8 _ ["hands", "web"] spCheckWeb := ⟨ok_checkWeb F8 dWeb, PySem.W.mg_of X G a8, k8, b8⟩
  have dAA : Df l.prog w K mg base CX0 "has_all_ahead" 1 f10 _ ["web", "members"] spAllAhead := ⟨ok_allAhead F10 B2, PySem.W.mg_of X G a10, k10, b10⟩
  have dHeads : Df l.prog w K mg base CX0 "heads" 4 f9 _ ["hands", "web"] spHeads := ⟨ok_heads F9 dCW dSets dAA, PySem.W.mg_of X G a9, k9, b9⟩
  have dFree : Df l.prog w K mg base CX0 "free_behind" 1 f11 _ ["hands", "web", "head"] spFree := ⟨ok_free F11 B2, PySem.W.mg_of X G a11, k11, b11⟩
  have dOrd : Df l.prog w K mg base CX0 "orders_behind" 5 f14 _ ["hands", "web"] spOrders := ⟨ok_orders F14 B2 (PySem.W.mg_none_of X G z_sum) dHeads dFree dUn, PySem.W.mg_of X G a14, k14, b14⟩
  have dCount : Df l.prog w K mg base CX0 "count_rows" 6 f12 _ ["hands", "web"] spCount := ⟨ok_count F12 dOrd, PySem.W.mg_of X G a12, k12, b12⟩
  have dStep : Df l.prog w K mg base CX0 "step_at" 2 f15 _ ["hands", "web", "counts", "row", "number"] spStep := ⟨ok_step F15 B2 dFree dUn, PySem.W.mg_of X G a15, k15, b15⟩
  have dRowAt : Df l.prog w K mg base CX0 "row_at" 6 f13 _ ["hands", "web", "number"] spRowAt := ⟨ok_rowAt F13 dOrd dNum dStep, PySem.W.mg_of X G a13, k13, b13⟩
  have dPen : Df l.prog w K mg base CX0 "_law_pen" 1 f16 _ ["script"] (spPen K) := ⟨ok_pen F16 B2, PySem.W.mg_of X G a16, k16, b16⟩
  have dDraw : Df l.prog w K mg base CX0 "_law_draw" 1 f17 _ ["pen", "many"] spDraw := ⟨ok_draw F17 B1, PySem.W.mg_of X G a17, k17, b17⟩
  have dPick : Df l.prog w K mg base CX0 "_law_pick" 2 f18 _ ["pen", "some"] (spPick K) := ⟨ok_pick F18 B1 dDraw, PySem.W.mg_of X G a18, k18, b18⟩
  have dShuf : Df l.prog w K mg base CX0 "_law_shuffled" 2 f19 _ ["pen", "some"] (spShuf K) := ⟨ok_shuf F19 B1 dDraw, PySem.W.mg_of X G a19, k19, b19⟩
  have dHands : Df l.prog w K mg base CX0 "_law_hands" 3 f20 _ ["pen", "many"] (spHands K) := ⟨ok_hands F20 B1 B2.range dDraw dPick, PySem.W.mg_of X G a20, k20, b20⟩
  have dNx : Df l.prog w K mg base CX0 "_law_nexts" 1 f21 _ ["hands", "web", "head"] spNext2 := ⟨ok_next2 F21 B2, PySem.W.mg_of X G a21, k21, b21⟩
  have dRow : Df l.prog w K mg base CX0 "_law_row" 3 f22 _ ["pen", "hands"] spLawRow := ⟨ok_lawRow F22 B2 dShuf, PySem.W.mg_of X G a22, k22, b22⟩
  have dList : Df l.prog w K mg base CX0 "_law_listed" 3 f23 _ ["pen", "hands"] spListed := ⟨ok_listed F23 B2 dDraw dShuf, PySem.W.mg_of X G a23, k23, b23⟩
  have dPR : Df l.prog w K mg base CX0 "_law_pairs_of_row" 3 f24 _ ["pen", "row"] spPairsRow := ⟨ok_pairsRow F24 B2 dDraw dPick, PySem.W.mg_of X G a24, k24, b24⟩
  have dLC : Df l.prog w K mg base CX0 "_law_closed" 1 f25 _ ["pairs"] spLawClosed := ⟨ok_lawClosed F25 B2, PySem.W.mg_of X G a25, k25, b25⟩
  have dLW : Df l.prog w K mg base CX0 "_law_web" 4 f26 _ ["pen", "hands"] spLawWeb := ⟨ok_lawWeb F26 dLC dPR dRow, PySem.W.mg_of X G a26, k26, b26⟩
  have dEnd : Df l.prog w K mg base CX0 "_law_is_end" 2 f27 _ ["hands", "web", "row", "at", "side"] spIsEnd := ⟨ok_isEnd F27 B2 dNx, PySem.W.mg_of X G a27, k27, b27⟩
  have dNext : Df l.prog w K mg base CX0 "_law_is_next" 3 f28 _ ["hands", "web", "row", "other"] spIsNext := ⟨ok_isNext F28 B2 dNx dEnd, PySem.W.mg_of X G a28, k28, b28⟩
  exact ok_law F29 B2 ⟨dPen, dDraw, dHands, dLW, dList, dCount, dRowAt, dEnd, dNext⟩
theorem walk {l : PySem.W.OpenLaw} {q : Program} {loose : List Str} {XP : (Str → Option Value) → Heap → Prop} {YP : World → Heap → Prop} {d : DefRec} {K : Params → PySem.W.Frag} (hn : l.most = some 63) (hdf : d.params.defaults = [])
    (hY : ∀ (w : World) (h : Heap), YP w h → (K w.params).In h)
    (F : ∀ (w : World) (mg : Str → Option Value) (fa : Addr) (h : Heap), (K w.params).In h → h.Ns mainGlobals mg → mg d.name = some (.ref fa) →
      ∃ fd : FuncData, (∀ (s : Shared) (u : Value), BindsTo s fd ⟨[u], []⟩ [("script", u)]) ∧ ∀ base : Heap, (K w.params).In base → base.Ns mainGlobals mg → FnOk l.prog w (K w.params) mg base CX0 7 fa fd ["script"] (spLaw (K w.params))) :
    PySem.W.WalkO q loose XP YP l.row.toRowW d [] (fun f vs => PySem.call f vs) :=
  L2.walk_of (n := 63) (k := 7) (x := "script") (CX := fun _ => CX0) (sp := fun w => spLaw (K w.params)) hn (by decide) hdf ⟨rfl, by decide, by decide⟩ hY F (fun _ _ a ns hl _ hS => ⟨a, ns, rfl, hS, hl, fun _ => rfl⟩) fun _ _ _ _ _ z => z
end Ah
open PySem PySem.W PyProof.Rows in
set_option maxRecDepth 100000 in
set_option maxHeartbeats 0 in
theorem PySem.Challenge.cw_aheadbook_k41_whole_rows_told_one_behind_holds : PySem.Challenge.rw_aheadbook_k41_whole_rows_told_one_behind.Holds := by
  w_on; o_law; k_head; (case hw => w_witness2)
  k_fill
  refine Ah.walk (l := PySem.Challenge.rw_aheadbook_k41_whole_rows_told_one_behind) rfl rfl (fun w h Y => PySem.W.kIn_of Y) ?F
  case F =>
    intro w mg fa h KX G hmg
    refine' Ah.all_mk KX G hmg ?a1 ?l1 ?c1 ?k1 ?a2 ?l2 ?c2 ?k2 ?a3 ?l3 ?c3 ?k3 ?a4 ?l4 ?c4 ?k4 ?a5 ?l5 ?c5 ?k5 ?a6 ?l6 ?c6 ?k6 ?a7 ?l7 ?c7 ?k7 ?a8 ?l8 ?c8 ?k8 ?a9 ?l9 ?c9 ?k9 ?a10 ?l10 ?c10 ?k10 ?a11 ?l11 ?c11 ?k11 ?a12 ?l12 ?c12 ?k12 ?a13 ?l13 ?c13 ?k13 ?a14 ?l14 ?c14 ?k14 ?a15 ?l15 ?c15 ?k15 ?a16 ?l16 ?c16 ?k16 ?a17 ?l17 ?c17 ?k17 ?a18 ?l18 ?c18 ?k18 ?a19 ?l19 ?c19 ?k19 ?a20 ?l20 ?c20 ?k20 ?a21 ?l21 ?c21 ?k21 ?a22 ?l22 ?c22 ?k22 ?a23 ?l23 ?c23 ?k23 ?a24 ?l24 ?c24 ?k24 ?a25 ?l25 ?c25 ?k25 ?a26 ?l26 ?c26 ?k26 ?a27 ?l27 ?c27 ?k27 ?a28 ?l28 ?c28 ?k28 ?a29 ?l29 ?c29 ?k29 ?z_len ?z_abs ?z_list ?z_isinstance ?z_str ?z_tuple ?z_dict ?z_all ?z_set ?z_enumerate ?z_sorted ?z_range ?z_sum ?z_int ?z_bool
    (case a1 => k_is)
    (case l1 => k_is)
    (case c1 => k_is)
    (case k1 => k_is)
    (case a2 => k_is)
    (case l2 => k_is)
    (case c2 => k_is)
    (case k2 => k_is)
    (case a3 => k_is)
    (case l3 => k_is)
    (case c3 => k_is)
    (case k3 => k_is)
    (case a4 => k_is)
    (case l4 => k_is)
    (case c4 => k_is)
    (case k4 => k_is)
    (case a5 => k_is)
    (case l5 => k_is)
    (case c5 => k_is)
    (case k5 => k_is)
    (case a6 => k_is)
    (case l6 => k_is)
    (case c6 => k_is)
    (case k6 => k_is)
    (case a7 => k_is)
    (case l7 => k_is)
    (case c7 => k_is)
    (case k7 => k_is)
    (case a8 => k_is)
    (case l8 => k_is)
    (case c8 => k_is)
    (case k8 => k_is)
    (case a9 => k_is)
    (case l9 => k_is)
    (case c9 => k_is)
    (case k9 => k_is)
    (case a10 => k_is)
    (case l10 => k_is)
    (case c10 => k_is)
    (case k10 => k_is)
    (case a11 => k_is)
    (case l11 => k_is)
    (case c11 => k_is)
    (case k11 => k_is)
    (case a12 => k_is)
    (case l12 => k_is)
    (case c12 => k_is)
    (case k12 => k_is)
    (case a13 => k_is)
    (case l13 => k_is)
    (case c13 => k_is)
    (case k13 => k_is)
    (case a14 => k_is)
    (case l14 => k_is)
    (case c14 => k_is)
    (case k14 => k_is)
    (case a15 => k_is)
    (case l15 => k_is)
    (case c15 => k_is)
    (case k15 => k_is)
    (case a16 => k_is)
    (case l16 => k_is)
    (case c16 => k_is)
    (case k16 => k_is)
    (case a17 => k_is)
    (case l17 => k_is)
    (case c17 => k_is)
    (case k17 => k_is)
    (case a18 => k_is)
    (case l18 => k_is)
    (case c18 => k_is)
    (case k18 => k_is)
    (case a19 => k_is)
    (case l19 => k_is)
    (case c19 => k_is)
    (case k19 => k_is)
    (case a20 => k_is)
    (case l20 => k_is)
    (case c20 => k_is)
    (case k20 => k_is)
    (case a21 => k_is)
    (case l21 => k_is)
    (case c21 => k_is)
    (case k21 => k_is)
    (case a22 => k_is)
    (case l22 => k_is)
    (case c22 => k_is)
    (case k22 => k_is)
    (case a23 => k_is)
    (case l23 => k_is)
    (case c23 => k_is)
    (case k23 => k_is)
    (case a24 => k_is)
    (case l24 => k_is)
    (case c24 => k_is)
    (case k24 => k_is)
    (case a25 => k_is)
    (case l25 => k_is)
    (case c25 => k_is)
    (case k25 => k_is)
    (case a26 => k_is)
    (case l26 => k_is)
    (case c26 => k_is)
    (case k26 => k_is)
    (case a27 => k_is)
    (case l27 => k_is)
    (case c27 => k_is)
    (case k27 => k_is)
    (case a28 => k_is)
    (case l28 => k_is)
    (case c28 => k_is)
    (case k28 => k_is)
    (case a29 => k_is)
    (case l29 => k_is)
    (case c29 => k_is)
    (case k29 => k_is)
    (case z_len => k_is)
    (case z_abs => k_is)
    (case z_list => k_is)
    (case z_isinstance => k_is)
    (case z_str => k_is)
    (case z_tuple => k_is)
    (case z_dict => k_is)
    (case z_all => k_is)
    (case z_set => k_is)
    (case z_enumerate => k_is)
    (case z_sorted => k_is)
    (case z_range => k_is)
    (case z_sum => k_is)
    (case z_int => k_is)
    (case z_bool => k_is)
