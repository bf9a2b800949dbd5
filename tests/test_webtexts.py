import unittest

import grown
from houses import lived
from kindlestair.errors import NoText
from kindlestair.webs import Web
from kindlestair.webtexts import read_web
from samples import NAMED_AS_WORDS, ORDINARY, SIXTEEN, odd_things


class Texts(unittest.TestCase):
    def refused(self, row, text):
        for ask in (lambda: read_web(text), lambda: read_web(text=text)):
            with self.assertRaises(NoText) as caught:
                ask()
            self.assertEqual(vars(caught.exception), {"row": row}, repr(text))
            self.assertIs(type(caught.exception.row), int)

    def read(self, text, stores, hearths):
        web = read_web(text)
        self.assertIsInstance(web, Web)
        self.assertEqual((web.stores, web.hearths), (stores, hearths))
        self.assertEqual(web, Web(stores, hearths))
        self.assertEqual(str(web), text)


class Read(Texts):
    def test_ordinary_webs(self):
        for stores, hearths, text, _ in ORDINARY:
            self.read(text, stores, hearths)
            self.assertEqual(read_web(text=text), Web(stores, hearths))

    def test_each_web_s_text_is_read_back_alike(self):
        for stores, hearths, _ in grown.small_webs(150):
            web = Web(stores, hearths)
            self.assertEqual(read_web(str(web)), web)
        for number in range(40):
            for many in (9, 12, 16):
                web = Web(1 + number % 3, grown.grown(number, many, 1 + number % 3, most=9, near=1 + number % 5))
                self.assertEqual(read_web(str(web)), web)
        for number in range(30):
            web = lived(number)[0].web()
            self.assertEqual(read_web(str(web)), web)

    def test_without_hearths(self):
        for stores in (1, 2, 3):
            self.read(f"stores {stores}", stores, ())

    def test_hungers_from_0_to_9(self):
        for figure in range(10):
            self.read(f"stores 2\nhearth a 1 {figure}", 2, (("a", (1, figure), ()),))
            if figure:
                self.read(f"stores 1\nhearth a {figure}", 1, (("a", (figure,), ()),))
        self.read("stores 3\nhearth a 0 0 9", 3, (("a", (0, 0, 9), ()),))

    def test_names_that_are_words_of_rows(self):
        stores, hearths, text, _ = NAMED_AS_WORDS
        self.read(text, stores, hearths)
        self.read("stores 1\nhearth over 1", 1, (("over", (1,), ()),))
        self.read("stores 2\nhearth over 1 0\nhearth a 0 1 over over", 2,
                  (("over", (1, 0), ()), ("a", (0, 1), ("over",))))
        self.read("stores 1\nhearth stores 1\nhearth over 1 over stores\nhearth hearth 1 over over stores", 1,
                  (("stores", (1,), ()), ("over", (1,), ("stores",)), ("hearth", (1,), ("over", "stores"))))

    def test_sixteen_and_a_seventeenth(self):
        stores, hearths, text, _ = SIXTEEN
        self.read(text, stores, hearths)
        self.refused(17, text + "\nhearth q 1")
        self.refused(17, text + "\nhearth q 1\nhearth r 1")
        self.refused(17, text + "\n")
        self.refused(17, text + "\nnone")


class FirstRow(Texts):
    def test_other_numbers_of_stores(self):
        for word in ("0", "4", "9", "10", "01", "001", "-1", "+1", "1.0", "one", "", " 1", "1 ", "1 1", "a", "1,", "1_0",
                     "1000000000", "11111111111111111111", "9" * 3000, "\t1", "1\t", "True", "0x1"):
            self.refused(0, f"stores {word}")
            self.refused(0, f"stores {word}\nhearth a 1")
            self.refused(0, f"stores {word}\nnone")

    def test_other_words(self):
        for row in ("", " ", "stores", "stores ", " stores 1", "stores  1", "Stores 1", "store 1", "storess 1", "1",
                    "hearth a 1", "1 stores", "stores 1 hearth a 1", "stores\t1", "stores;1", "stores1"):
            self.refused(0, row)
            self.refused(0, row + "\nhearth a 1")

    def test_the_empty_text_and_line_ends(self):
        for text in ("", "\n", "\n\n", "\nstores 1", " \nstores 1"):
            self.refused(0, text)
        self.refused(1, "stores 1\n")
        self.refused(1, "stores 1\n\n")
        self.refused(1, "stores 1\n\nhearth a 1")
        self.refused(1, "stores 1\n ")


class HearthRows(Texts):
    def refused_row(self, row, *, stores=1):
        """As the first hearth's row, behind others and ahead of others."""
        self.refused(1, f"stores {stores}\n{row}")
        ones = " ".join(["1"] * stores)
        self.refused(3, f"stores {stores}\nhearth y {ones}\nhearth z {ones} over y\n{row}")
        self.refused(2, f"stores {stores}\nhearth y {ones}\n{row}\nhearth z {ones}")
        self.refused(2, f"stores {stores}\nhearth y {ones}\n{row}\nnone")

    def test_blanks(self):
        for row in ("hearth  a 1", "hearth a  1", "hearth a 1 ", " hearth a 1", "hearth a 1  over y", "hearth a 1 over  y",
                    "hearth a 1 over y ", "hearth\ta 1", "hearth a\t1", "hearth a 1\t", " ", "  "):
            self.refused_row(row)

    def test_an_empty_row_and_a_line_end_behind_the_last_one(self):
        self.refused_row("")
        self.refused(2, "stores 1\nhearth a 1\n")
        self.refused(2, "stores 1\nhearth a 1\n\nhearth b 1")
        self.refused(3, "stores 1\nhearth a 1\nhearth b 1 over a\n")

    def test_numbers(self):
        for word in ("01", "00", "001", "+1", "-1", "-0", "10", "11", "99", "1.0", "1e1", "one", "x", "1_0", "1,", "0x1",
                     "1000000000", "1" * 3000, "0"):
            self.refused_row(f"hearth a {word}")
            self.refused_row(f"hearth a {word} over y")
        for word in ("01", "10", "+1", "-1", "x", ""):
            self.refused_row(f"hearth a 1 {word}", stores=2)
            self.refused_row(f"hearth a {word} 1", stores=2)

    def test_figures_of_other_alphabets(self):
        for word in ("\u0661", "\u00b2", "\uff11"):
            self.refused_row(f"hearth a {word}")

    def test_hungers_all_0_too_few_or_too_many(self):
        self.refused_row("hearth a 0")
        self.refused_row("hearth a 0 0", stores=2)
        self.refused_row("hearth a 0 0 0", stores=3)
        self.refused_row("hearth a")
        self.refused_row("hearth a ")
        self.refused_row("hearth a over y")
        self.refused_row("hearth a 1 1")
        self.refused_row("hearth a 1", stores=2)
        self.refused_row("hearth a 1 over y", stores=2)
        self.refused_row("hearth a 1 1 1", stores=2)
        self.refused_row("hearth a 1 1", stores=3)
        self.refused_row("hearth a 1 1 1 1", stores=3)

    def test_over(self):
        for row in ("hearth a 1 over", "hearth a 1 over ", "hearth a 1 y", "hearth a 1 under y", "hearth a 1 Over y",
                    "hearth a 1 over 1", "hearth a 1 over over", "hearth a 1 over y over y", "hearth a 1 over y 1",
                    "hearth a 1 over Y", "hearth a 1 over y,y", "hearth a over y 1"):
            self.refused(2, f"stores 1\nhearth y 1\n{row}")

    def test_feeders(self):
        for row in ("hearth a 1 over x", "hearth a 1 over a", "hearth a 1 over y y", "hearth a 1 over y x",
                    "hearth a 1 over x y", "hearth a 1 over z"):
            self.refused(2, f"stores 1\nhearth y 1\n{row}\nhearth z 1")
        self.read("stores 1\nhearth y 1\nhearth z 1\nhearth a 1 over z y", 1,
                  (("y", (1,), ()), ("z", (1,), ()), ("a", (1,), ("z", "y"))))

    def test_names(self):
        for name in ("A", "aB", "a1", "1", "abcdefg", "a_b", "a-b", "", "a.", "\u00e9"):
            self.refused_row(f"hearth {name} 1")
        self.refused(2, "stores 1\nhearth a 1\nhearth a 1")
        self.refused(3, "stores 1\nhearth a 1\nhearth b 1\nhearth a 1 over b")
        self.read("stores 1\nhearth abcdef 1", 1, (("abcdef", (1,), ()),))

    def test_another_word_ahead(self):
        for word in ("Hearth", "hearths", "heart", "stores", "over", "a", "", "build"):
            self.refused_row(f"{word} a 1")
        self.refused_row("hearth")
        self.refused_row("stores 1")
        self.refused_row("stores 2")

    def test_the_first_row_that_is_not_so(self):
        self.refused(1, "stores 1\nhearth A 1\nhearth b 10\n")
        self.refused(2, "stores 1\nhearth a 1\nhearth b 10\nhearth c 1 over b")
        self.refused(0, "stores 4\nhearth a 1 1 1 1\nnone")

    def test_other_line_ends(self):
        for end in ("\r\n", "\r", "; ", ";", "\n\n", " \n", "\n "):
            text = "stores 1" + end + "hearth a 1"
            with self.assertRaises(NoText):
                read_web(text)
        self.refused(1, "stores 1\nhearth a 1\rhearth b 1")


class NoTexts(Texts):
    def test_what_is_no_text(self):
        for thing in odd_things() + [0, 1, b"stores 1", ["stores 1"], ("stores 1",), Web(1), ["stores 1", "hearth a 1"]]:
            if not isinstance(thing, str):
                self.refused(0, thing)

    def test_nothing_else_is_read(self):
        """Of a text with one sign left out, put in or changed only what is the text of a web is read."""
        tried = read = 0
        for _, _, text, _ in ORDINARY[:4]:
            for at in range(len(text) + 1):
                texts = [text[:at] + text[at + 1:]]
                for sign in " \n01a9-":
                    texts += [text[:at] + sign + text[at:], text[:at] + sign + text[at + 1:]]
                for other in texts:
                    tried += 1
                    try:
                        web = read_web(other)
                    except NoText as no_text:
                        self.assertLess(no_text.row, len(other.split("\n")))
                    else:
                        self.assertEqual(str(web), other)
                        read += 1
        self.assertGreater(read, 100)
        self.assertGreater(tried - read, 1000)

    def test_one_argument(self):
        for arguments in ((), ("stores 1", "stores 1")):
            with self.assertRaises(TypeError):
                read_web(*arguments)


if __name__ == "__main__":
    unittest.main()
