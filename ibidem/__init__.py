"""Lists of books set by a style, and read back."""
