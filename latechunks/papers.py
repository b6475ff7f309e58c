"""The bases of all papers: papers keep what they are made with, and each class of them tells what equals it."""


class Paper:
    """The base of all papers. It is not made itself."""


class Denial(Paper):
    """The base of all papers that are false. It is not made itself."""

    def __bool__(self):
        return False
