"""Words: how texts are parted into them, which ones are numbers, what they tell.

A form is a tuple of wanted things: words that must stand so, N or F for the
numbers of those names, MANY for any number of N.
"""

from sawrounds.errors import BadText

N = "N"
F = "F"
MANY = "N .."
MOST_FIGURES = 4000


def is_n(word):
    """Whether a word is an N: an integer from 0 on without needless zeros."""
    if not 1 <= len(word) <= MOST_FIGURES or not word.isascii() or not word.isdigit():
        return False
    return word == "0" or word[0] != "0"


def is_f(word):
    """Whether a word is an F: an N, perhaps with a sign, perhaps with a divisor."""
    above, stroke, below = word.partition("/")
    if above.startswith("-"):
        above = above[1:]
        if above == "0":
            return False
    if stroke == "/" and (not is_n(below) or below in ("0", "1")):
        return False
    return is_n(above)


def is_wanted(word, wanted):
    """Whether a word can stand where this one of a form's things is wanted."""
    if wanted in (N, MANY):
        return is_n(word)
    if wanted == F:
        return is_f(word)
    return word == wanted


def words_of(text):
    """The words with their places (line, word), and the place behind the last one."""
    words = []
    place = (0, 0)
    for line, row in enumerate(text.split("\n")):
        place = (line, 0)
        for piece in row.split(" "):
            if piece != "":
                words.append((piece, place))
                place = (line, place[1] + 1)
    return (words, place)


def read_words(text, form):
    """The words of a text of the form, those of the form itself among them."""
    if type(text) != str:
        raise BadText(0, 0)
    words, end = words_of(text)
    at = 0
    for word, place in words:
        if at < len(form) and form[at] == MANY and not is_n(word):
            at = at + 1
        if at == len(form) or not is_wanted(word, form[at]):
            raise BadText(place[0], place[1])
        if form[at] != MANY:
            at = at + 1
    if at < len(form):
        raise BadText(end[0], end[1])
    return [word for word, _ in words]


def fraction_told(word):
    """The pair of integers that an F tells, in lowest terms or not."""
    above, stroke, below = word.partition("/")
    if stroke == "":
        return (int(above), 1)
    return (int(above), int(below))


def fraction_word(one):
    """A fraction as a word."""
    above, below = one
    if below == 1:
        return str(above)
    return f"{above}/{below}"
