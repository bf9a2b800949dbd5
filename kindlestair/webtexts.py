"""Webs read from their texts."""

from kindlestair.errors import NoStores, NoText, NoWeb
from kindlestair.webs import Web
from kindlestair.words import hearth_told, is_number


def web_begun(row):
    """The web without hearths that a text's first row tells."""
    words = row.split(" ")
    if len(words) != 2 or words[0] != "stores" or not is_number(words[1]):
        raise NoText(0)
    try:
        return Web(int(words[1]))
    except NoStores:
        raise NoText(0) from None


def web_with_row(web, row, number):
    """The web with one more hearth, that the row of this number tells."""
    hearth = hearth_told(row.split(" "))
    if hearth is None:
        raise NoText(number)
    try:
        return web.built(hearth)
    except NoWeb:
        raise NoText(number) from None


def read_web(text):
    """The web that a text tells; nothing else is read than what the text of a web is."""
    if not isinstance(text, str):
        raise NoText(0)
    rows = text.split("\n")
    web = web_begun(rows[0])
    for number, row in enumerate(rows[1:], start=1):
        web = web_with_row(web, row, number)
    return web
