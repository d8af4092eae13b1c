"""The words of a row, and which of them are names, wordings and numbers."""

KEYWORDS = (
    "person", "matter", "against", "see", "tell", "by", "at", "who", "what", "since",
    "tellers", "wordings", "apart", "leans", "hidden", "strike", "quote", "ground", "cut",
)
LETTERS = "abcdefghijklmnopqrstuvwxyz"
FIGURES = "0123456789"
MOST_LETTERS = 8
MOST_FIGURES = 9


# A split without a sign would part at tabs and the like too, and they are no blanks.
def words_in(row):
    return [word for word in row.split(" ") if word != ""]


# Python's own isalpha and isdigit would let in letters and figures of other scripts.
def is_made_of(word, allowed):
    return all([sign in allowed for sign in word])


def is_word(word):
    return 1 <= len(word) <= MOST_LETTERS and is_made_of(word, LETTERS)


def is_name(word):
    return is_word(word) and word not in KEYWORDS


def number_in(word):
    if not 1 <= len(word) <= MOST_FIGURES or not is_made_of(word, FIGURES):
        return None
    if word[0] == "0" and word != "0":
        return None
    return int(word)
