"""Tests in the best order, on machines, within a budget."""
