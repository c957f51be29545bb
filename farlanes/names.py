"""What beads and maps may be called, and the words that may not be names."""

MOST_LETTERS = 8
WORDS = ("identity", "lead", "swap")


def is_name(text):
    """Tell whether a text is allowed as a name."""
    letters = all(["a" <= letter <= "z" for letter in text])
    return letters and 1 <= len(text) <= MOST_LETTERS and text not in WORDS
