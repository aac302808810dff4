import unittest

from latticeworks.errors import LatticeError, NoSheet, NoSteps, TooMany
from latticeworks.sheet import orders_of
from tests.helper import is_told, row_of, rows_of, same_kinds, source

# One right row for each word, and what it is read to.
ROWS = ((2, 4), (3, 5))
POINT = ((1, 2), (-3, 1))
RIGHT = (
    ("standing 2 4 ; 3 5", ("standing", ROWS)),
    ("inside 2 4 ; 3 5 : 5 9", ("inside", ROWS, (5, 9))),
    ("dividing 2 4 ; 3 5", ("dividing", ROWS)),
    ("rests 2 4 ; 3 5", ("rests", ROWS)),
    ("short 2 4 ; 3 5", ("short", ROWS)),
    ("nearest 2 4 ; 3 5 : 1/2 -3", ("nearest", ROWS, POINT)),
    ("shortest 2 4 ; 3 5", ("shortest", ROWS)),
    ("near 2 4 ; 3 5 : 1/2 -3 : 7/2", ("near", ROWS, POINT, (7, 2))),
    ("answers 2 4 ; 3 5 : 7 8", ("answers", ROWS, (7, 8))),
    ("small 2 4 ; 3 5 : 7 8 : 0 -1 : 9 10", ("small", ROWS, (7, 8), (0, -1), (9, 10))),
    ("together 2 4 ; 3 5 : 1 1", ("together", ROWS, ((1, 1),))),
    ("shared 2 4 ; 3 5 : 1 1 ; 0 2 ; 5 5", ("shared", ROWS, ((1, 1), (0, 2), (5, 5)))),
    ("plan 1 -1 : 2 4 ; 3 5 : 7 8 : 0 -1 : 9 10", ("plan", (1, -1), ROWS, (7, 8), (0, -1), (9, 10))),
    ("under 1 -1 : 2 4 ; 3 5 : 7 8 : 0 -1 : 9 10", ("under", (1, -1), ROWS, (7, 8), (0, -1), (9, 10))),
)
WORDS = tuple(order[0] for text, order in RIGHT)

# How a text for each sort of part is made of how many rows there are, and how wide they are.
SORTS = {
    "standing": ("rows",), "inside": ("rows", "wide"), "dividing": ("rows",), "rests": ("rows",), "short": ("rows",),
    "nearest": ("rows", "wide"), "shortest": ("rows",), "near": ("rows", "wide", "one"), "answers": ("rows", "many"),
    "small": ("rows", "many", "wide", "wide"), "together": ("rows", "rows"), "shared": ("rows", "rows"),
    "plan": ("wide", "rows", "many", "wide", "wide"), "under": ("wide", "rows", "many", "wide", "wide"),
}
FEW = ("near", "nearest", "shortest")


def texts_for(word, many, wide):
    row = " ".join(["3"] * wide)
    parts = {"rows": " ; ".join([row] * many), "wide": row, "many": " ".join(["3"] * many), "one": "3"}
    return [parts[sort] for sort in SORTS[word]]


def sheet_row(word, parts):
    return word + " " + " : ".join(parts)


class Sheets(unittest.TestCase):
    def read(self, text):
        told = orders_of(text)
        self.assertIs(type(told), tuple)
        self.assertTrue(is_told(told))
        self.assertTrue(same_kinds(orders_of(text), told))
        return told

    def refused(self, text, line):
        with self.assertRaises(LatticeError, msg=repr(text)) as caught:
            orders_of(text)
        self.assertIs(type(caught.exception), NoSheet)
        self.assertIs(type(caught.exception.line), int)
        self.assertEqual(caught.exception.line, line, text)

    def refused_anywhere(self, text):
        """Refused alone, and behind rows that are right or passed over, with a bad one behind or not."""
        self.refused(text, 0)
        self.refused("standing 1\n" + text, 1)
        self.refused("\n  \nstanding 1\n\n" + text + "\nstanding 1\nnothing", 4)


class Right(Sheets):
    def test_each_word(self):
        self.assertEqual(len(set(WORDS)), 14)
        for text, order in RIGHT:
            self.assertTrue(same_kinds(self.read(text), (order,)), text)

    def test_all_words_in_one_sheet(self):
        text = "\n".join(row for row, order in RIGHT)
        self.assertEqual(self.read(text), tuple(order for row, order in RIGHT))

    def test_blanks_ahead_and_behind_and_round_parts(self):
        for text, order in RIGHT:
            word, rest = text.split(" ", 1)
            tight = word + " " + rest.replace(" ; ", ";").replace(" : ", ":")
            wide = "   " + word + "    " + rest.replace(" ", "   ") + "    "
            for other in (" " + text, text + " ", "     " + text + "     ", tight, " " + tight + " ", wide,
                          text.replace(" : ", ": "), text.replace(" : ", " :"), text.replace(" ; ", "; "),
                          text.replace(" ; ", "  ;"), word + "  " + rest):
                self.assertEqual(self.read(other), (order,), other)

    def test_rows_that_are_passed_over(self):
        self.assertEqual(self.read(""), ())
        for text in (" ", "\n", "\n\n\n", "   \n  \n ", " \n", "\n "):
            self.assertEqual(self.read(text), ())
        one = ("standing", ((1,),))
        for text in ("standing 1\n", "\nstanding 1", "\n\n  \nstanding 1\n   \n", " \nstanding 1\n"):
            self.assertEqual(self.read(text), (one,))
        self.assertEqual(self.read("standing 1\n\n \nstanding 1"), (one, one))

    def test_fractions(self):
        read = {"2/4": (1, 2), "-3/6": (-1, 2), "0/5": (0, 1), "0": (0, 1), "7": (7, 1), "-7": (-7, 1), "4/2": (2, 1),
                "-4/2": (-2, 1), "1/1": (1, 1), "999999999999/999999999999": (1, 1), "1/999999999999": (1, 999999999999),
                "-999999999999/2": (-999999999999, 2), "6/10": (3, 5), "10/6": (5, 3)}
        for text, part in read.items():
            self.assertEqual(self.read("nearest 1 : " + text), (("nearest", ((1,),), (part,)),))
            self.assertEqual(self.read("nearest 1 0 : 1/3 " + text), (("nearest", ((1, 0),), ((1, 3), part)),))
            if part[0] >= 0:
                self.assertEqual(self.read("near 1 : 0 : " + text), (("near", ((1,),), ((0, 1),), part),))
            else:
                self.refused_anywhere("near 1 : 0 : " + text)

    def test_numbers(self):
        for text in ("0", "1", "-1", "9", "10", "-10", "100", "123456789012", "-123456789012", "999999999999",
                     "-999999999999", "100000000000"):
            self.assertEqual(self.read("standing " + text), (("standing", ((int(text),),)),))
            self.assertEqual(self.read("inside 1 : " + text), (("inside", ((1,),), (int(text),)),))
            self.assertEqual(self.read("answers 1 : " + text), (("answers", ((1,),), (int(text),)),))

    def test_shapes(self):
        for word in WORDS:
            for many in range(1, 10):
                for wide in range(1, 10):
                    text = sheet_row(word, texts_for(word, many, wide))
                    if many > 8 or wide > 8 or (word in FEW and many > 5):
                        self.refused(text, 0)
                    else:
                        order = self.read(text)[0]
                        self.assertEqual(order[0], word)
                        self.assertEqual(len(order), len(SORTS[word]) + 1)

    def test_numbers_by_chance(self):
        chance = source(1)
        for trial in range(60):
            many, wide = chance.randint(1, 8), chance.randint(1, 8)
            rows = rows_of(chance, many, wide, 10 ** 12 - 1)
            costs, low, high = [row_of(chance, wide, chance.choice((9, 10 ** 12 - 1))) for k in range(3)]
            due = row_of(chance, many, 10 ** 12 - 1)

            def written(row):
                return (" " * chance.randint(1, 3)).join(str(n) for n in row)
            parts = [written(costs), ";".join(written(row) for row in rows), written(due), written(low), written(high)]
            self.assertEqual(self.read("plan " + ":".join(parts)), (("plan", costs, rows, due, low, high),))

    def test_many_rows(self):
        self.assertEqual(self.read("\n".join(["standing 1"] * 40)), (("standing", ((1,),)),) * 40)
        self.assertEqual(self.read("\n".join(["standing 1", ""] * 20)), (("standing", ((1,),)),) * 20)
        # The bound of forty rows is one of what is handed in: nothing is refused for it.
        self.assertEqual(len(self.read("\n".join(["standing 1"] * 45))), 45)


class Wrong(Sheets):
    def test_words(self):
        for text in ("1 2", "nothing 1 2", "Standing 1 2", "STANDING 1", "standing1 2", "stand 1 2", "standings 1",
                     ": 1 2", "; 1", ":", ";", "-", "/", "~", "standing: 1", "standing; 1", "standing:1 2", "none 1",
                     "told 1", "rows 1", "standing standing 1", "inside:1 : 1", "0", "plans 1 : 1 : 1 : 1 : 1",
                     "all 1", "few rows 1", "get 1", "keys 1"):
            self.refused_anywhere(text)

    def test_words_without_parts(self):
        for word in WORDS:
            for text in (word, word + " ", "  " + word, word + "  :", word + " ;", word + " : :"):
                self.refused_anywhere(text)

    def test_numbers_that_are_none(self):
        bad = ("-0", "007", "+1", "1234567890123", "-1234567890123", "00", "01", "-01", "-", "--1", "1-", "1.0", "1e3",
               "0x1", "a", "1a", "a1", "1,2", "1_0", "- 1", "(1)", "1'", "True", "None", "0000000000001", "~", "!",
               "1-1", "1+1", "000000000000")
        for text in bad:
            self.refused_anywhere("standing " + text)
            self.refused_anywhere("standing 1 " + text)
            self.refused_anywhere("standing 1 ; " + text)
            self.refused_anywhere("standing " + text + " ; 1")
            self.refused_anywhere("inside 1 : " + text)
            self.refused_anywhere("nearest 1 : " + text)
            self.refused_anywhere("near 1 : 1 : " + text)
            self.refused_anywhere("plan " + text + " : 1 : 1 : 1 : 1")

    def test_fractions_that_are_none(self):
        bad = ("1/0", "1/-2", "1 / 2", "1/ 2", "1 /2", "1/", "/2", "/", "1/2/3", "1//2", "-0/5", "01/2", "1/02", "1/+2",
               "1234567890123/2", "1/1234567890123", "1/a", "a/2", "-1/-2", "0/0", "--1/2", "1/2-", "1/00", "1/-0",
               "0/-5", "-/2", "1/2.5", "+1/2")
        for text in bad:
            self.refused_anywhere("nearest 1 : " + text)
            self.refused_anywhere("nearest 1 0 ; 0 1 : 1/2 " + text)
            self.refused_anywhere("near 1 : 1/2 : " + text)
            self.refused_anywhere("near 1 : " + text + " : 1/2")

    def test_a_fraction_where_a_number_is_told(self):
        for text in ("1/2", "2/1", "0/5", "4/4"):
            for row in ("standing {}", "standing 1 ; {}", "inside {} : 1", "inside 1 : {}", "answers 1 : {}", "answers {} : 1",
                        "small 1 : {} : 1 : 1", "small 1 : 1 : {} : 1", "small 1 : 1 : 1 : {}", "together 1 : {}",
                        "shared {} : 1", "plan {} : 1 : 1 : 1 : 1", "plan 1 : {} : 1 : 1 : 1", "plan 1 : 1 : {} : 1 : 1",
                        "plan 1 : 1 : 1 : {} : 1", "plan 1 : 1 : 1 : 1 : {}", "under 1 : 1 : {} : 1 : 1",
                        "nearest {} : 1", "near {} : 1 : 1", "shortest {}", "short {}", "dividing {}", "rests {}"):
                self.assertEqual(len(self.read(row.replace("{}", "1"))), 1)
                self.refused_anywhere(row.replace("{}", text))

    def test_parts_too_many_and_left_out(self):
        for word in WORDS:
            for many, wide in ((1, 1), (2, 2), (1, 3), (3, 1), (3, 3)):
                parts = texts_for(word, many, wide)
                self.assertEqual(len(self.read(sheet_row(word, parts))), 1)
                for k in range(len(parts)):
                    self.refused_anywhere(sheet_row(word, parts[:k] + parts[k + 1:]))
                    self.refused_anywhere(sheet_row(word, parts[:k] + [""] + parts[k + 1:]))
                    self.refused_anywhere(sheet_row(word, parts[:k] + [""] + parts[k:]))
                for more in ("1", "", parts[-1], " "):
                    self.refused_anywhere(sheet_row(word, parts + [more]))

    def test_empty_rows(self):
        for word in WORDS:
            parts = texts_for(word, 2, 2)
            for k, sort in enumerate(SORTS[word]):
                others = [parts[k] + " ;", "; " + parts[k], parts[k] + ";;" + parts[k], ";", "; ;", parts[k] + "; ;"]
                for other in others:
                    self.refused_anywhere(sheet_row(word, parts[:k] + [other] + parts[k + 1:]))

    def test_widths(self):
        for word in WORDS:
            for many, wide in ((1, 1), (2, 2), (3, 4), (5, 2), (1, 8), (5, 7)):
                parts = texts_for(word, many, wide)
                self.assertEqual(len(self.read(sheet_row(word, parts))), 1)
                for k in range(len(parts)):
                    # A number more or less in any part, but where it's one row alone that no other part is as wide as.
                    longer = parts[:k] + [parts[k] + " 3"] + parts[k + 1:]
                    shorter = parts[:k] + [parts[k][:-2].rstrip(" ;")] + parts[k + 1:]
                    others = SORTS[word][:k] + SORTS[word][k + 1:]
                    alone = SORTS[word][k] == "rows" and many == 1 and not {"rows", "wide"} & set(others)
                    if not alone:
                        self.refused_anywhere(sheet_row(word, longer))
                    elif wide < 8:
                        self.assertEqual(len(self.read(sheet_row(word, longer))), 1)
                    if (many if SORTS[word][k] == "many" else wide) > 1 and not alone and SORTS[word][k] != "one":
                        self.refused_anywhere(sheet_row(word, shorter))

    def test_unlike_rows(self):
        for text in ("standing 1 2 ; 3", "standing 1 ; 2 3", "standing 1 2 ; 3 4 ; 5", "together 1 2 : 1", "shared 1 : 1 2",
                     "together 1 2 ; 1 : 1 2", "together 1 2 : 1 2 ; 1", "shared 1 2 ; 3 4 : 1 2 3",
                     "inside 1 2 : 1", "inside 1 2 : 1 2 3", "answers 1 2 : 1 2", "answers 1 ; 2 : 1", "answers 1 2 ; 3 4 : 1",
                     "small 1 2 : 1 : 0 : 1 1", "small 1 2 : 1 : 0 0 : 1", "small 1 2 : 1 2 : 0 0 : 1 1",
                     "plan 1 : 1 2 : 1 : 0 0 : 1 1", "plan 1 1 1 : 1 2 : 1 : 0 0 : 1 1", "plan 1 1 : 1 2 : 1 1 : 0 0 : 1 1",
                     "under 1 1 : 1 2 ; 3 4 : 1 : 0 0 : 1 1", "near 1 2 : 1 : 1", "near 1 2 : 1 2 3 : 1", "nearest 1 2 : 1",
                     "near 1 2 : 1 2 : 1 2", "near 1 : 1 : 1 2", "near 1 : 1 : 1/2 1/2"):
            self.refused_anywhere(text)

    def test_several_rows_where_one_is_told(self):
        for word in WORDS:
            for many, wide in ((1, 1), (2, 2)):
                parts = texts_for(word, many, wide)
                for k, sort in enumerate(SORTS[word]):
                    if sort != "rows":
                        double = parts[k] + " ; " + parts[k]
                        self.refused_anywhere(sheet_row(word, parts[:k] + [double] + parts[k + 1:]))

    def test_squares(self):
        for text in ("-1", "-1/2", "-999999999999", "1 2", "1/2 1/3", "1 ; 1", "", "1/0", "-0", "0 0"):
            self.refused_anywhere("near 1 : 1 : " + text)
        for text in ("0", "0/7", "1/2", "999999999999"):
            self.assertEqual(len(self.read("near 1 : 1 : " + text)), 1)

    def test_too_many_rows_and_numbers(self):
        for word in WORDS:
            most = 5 if word in FEW else 8
            self.assertEqual(len(self.read(sheet_row(word, texts_for(word, most, 8)))), 1)
            self.refused_anywhere(sheet_row(word, texts_for(word, most + 1, 8)))
            self.refused_anywhere(sheet_row(word, texts_for(word, most, 9)))
        for word in ("together", "shared"):
            row = "1 2"
            for one, other in ((8, 9), (9, 8), (9, 1), (1, 9)):
                self.refused_anywhere(sheet_row(word, [" ; ".join([row] * one), " ; ".join([row] * other)]))
        self.refused_anywhere("inside 1 : 1 2 3 4 5 6 7 8 9")

    def test_signs_between(self):
        for text in ("standing 1, 2", "standing 1 | 2", "standing (1 2)", "standing 1 2 .", "standing [1]", "standing 1 # 2",
                     "inside 1 ; 2", "inside 1 : 2 :", "inside : 1 : 2", "inside 1 :: 2", "standing 1 : 2", "answers 1 = 1"):
            self.refused_anywhere(text)

    def test_the_first_bad_row_of_several(self):
        rows = [text for text, order in RIGHT] + ["", "   "]
        for k in range(len(rows)):
            for other in range(k + 1, len(rows)):
                spoilt = list(rows)
                spoilt[k] = "standing -0"
                spoilt[other] = "nothing"
                self.refused("\n".join(spoilt), k)
        self.refused("\n" * 39 + "x", 39)
        self.refused("standing 1\n" * 39 + "standing", 39)
        self.refused("x\n" * 40, 0)

    def test_the_refusal(self):
        self.assertEqual(NoSheet.__bases__, (LatticeError,))
        for other in (NoSteps, TooMany):
            self.assertFalse(issubclass(NoSheet, other))
            self.assertFalse(issubclass(other, NoSheet))


if __name__ == "__main__":
    unittest.main()
